/-
  What Next of package addr returns. No condition.
-/
import Derived.Test.YthdnpilkkegniaaWd
namespace Go.Proofs.Ythdnpilkkegniaa
open Go.RowKit

theorem sHi_sHi (h : BitVec 64) (v : Bool) : sHi (sHi h v) v = sHi h v := by
  cases v
  · simp only [sHi, Bool.false_eq_true, if_false]
    rw [BitVec.and_assoc, BitVec.and_self]
  · rfl
theorem sLo_sLo (l : BitVec 64) (v : Bool) : sLo (sLo l v) v = sLo l v := by cases v <;> rfl
theorem norm_norm (a : Ad) : norm (norm a) = norm a := by
  unfold norm
  simp only [sHi_sHi, sLo_sLo]

theorem whole_norm (a : Ad) (w : World) :
    Calls Try.prog 101 #[.agg #[.int .u64 (u (norm a).hi), .int .u64 (u (norm a).lo)], .bool a.v6] w fun e w' => e = .returned (.agg #[.int .u64 (u (norm a).hi), .int .u64 (u (norm a).lo), .bool (norm a).v6]) ∧ Below w.heap.size w w' := by
  have h := whole_any (norm a) w
  rw [norm_norm] at h
  exact h

def adEq (a b : Ad) : Bool := adB (u a.hi) (u a.lo) a.v6 (u b.hi) (u b.lo) b.v6
theorem adEq_iff (a b : Ad) : adEq a b = true ↔ a = b := by
  obtain ⟨h, l, v⟩ := a
  obtain ⟨h', l', v'⟩ := b
  simp [adEq, adB, u_inj]

def nextv (a : Ad) : Ad × Bool :=
  if adEq (norm a) (fillv (norm a) 0) = true then (norm a, false)
  else if a.v6 = false then (norm ⟨(norm a).hi + 4294967296#64, (norm a).lo, false⟩, true)
  else if u ((norm a).lo + 1#64) = 0 then (norm ⟨(norm a).hi + 1#64, (norm a).lo + 1#64, true⟩, true)
  else (norm ⟨(norm a).hi, (norm a).lo + 1#64, true⟩, true)

theorem u_add32 (x : BitVec 64) : IntKind.u64.wrap (u x + 4294967296) = u (x + 4294967296#64) := u_add x 4294967296#64
theorem u_add1 (x : BitVec 64) : IntKind.u64.wrap (u x + 1) = u (x + 1#64) := u_add x 1#64

set_option maxHeartbeats 1000000 in
theorem next_max (a : Ad) (w : World) (hE : adEq (norm a) (fillv (norm a) 0) = true) :
    Calls Try.prog 47 #[.agg #[.int .u64 (u a.hi), .int .u64 (u a.lo), .bool a.v6]] w fun e w' => e = .returned (.tuple #[.agg #[.int .u64 (u (nextv a).1.hi), .int .u64 (u (nextv a).1.lo), .bool (nextv a).1.v6], .bool (nextv a).2]) ∧ Below w.heap.size w w' := by
  have hv : nextv a = (norm a, false) := by unfold nextv; rw [if_pos hE]
  rw [hv]
  clear hv
  have hF := Lib.hid ((adEq_iff _ _).1 hE).symm
  clear hE
  have hf := fun W : World => fill_any (norm a) 0 W
  rw [hF.out] at hf
  have Hf := Lib.hid hf
  clear hf
  go_enter Try.func47, Try.ntmps47
  go_wp2_with fail
  refine (split_any a _).mono ?_
  rintro e w1 ⟨rfl, hw1⟩
  have zw1 := hw1.size
  have bw1 := below_of (w := w) (by go_grown) hw1
  try simp at zw1
  obtain ⟨pa, pb, pc, pd, pe, pf, pz⟩ := cells3 (b := w.heap.size) hw1 (by go_size) (by go_simp <;> rfl) (by go_simp <;> rfl) (by go_simp <;> rfl) (by go_simp <;> rfl) (by go_simp <;> rfl) (by go_simp <;> rfl)
  obtain ⟨qa, qb, qc, qd, qe, qf, qz⟩ := cells3 (b := w.heap.size + 1) hw1 (by go_size) (by go_simp <;> rfl) (by go_simp <;> rfl) (by go_simp <;> rfl) (by go_simp <;> rfl) (by go_simp <;> rfl) (by go_simp <;> rfl)
  clear hw1
  go_wp2_with fail
  refine (whole_norm a _).mono ?_
  rintro e w2 ⟨rfl, hw2⟩
  have zw2 := hw2.size
  have bw2 := below_of (w := w) (by go_grown) hw2
  try simp at zw2
  obtain ⟨p'a, p'b, p'c, p'd, p'e, p'f, p'z⟩ := cells3 (b := w.heap.size) hw2 (by go_size) (by go_simp <;> rfl) (by go_simp <;> rfl) (by go_simp <;> rfl) (by go_simp <;> rfl) (by go_simp <;> rfl) (by go_simp <;> rfl)
  obtain ⟨q'a, q'b, q'c, q'd, q'e, q'f, q'z⟩ := cells3 (b := w.heap.size + 1) hw2 (by go_size) (by go_simp <;> rfl) (by go_simp <;> rfl) (by go_simp <;> rfl) (by go_simp <;> rfl) (by go_simp <;> rfl) (by go_simp <;> rfl)
  obtain ⟨r'a, r'b, r'c, r'd, r'z⟩ := cells2 (b := w1.heap.size) hw2 (by go_size) (by go_simp <;> rfl) (by go_simp <;> rfl) (by go_simp <;> rfl) (by go_simp <;> rfl)
  clear hw2
  have d1 : ¬ w.heap.size = w1.heap.size := by omega
  have d2 : ¬ w.heap.size + 1 = w1.heap.size := by omega
  clear pa pb pc pd pe pf pz qa qb qc qd qe qf qz
  go_wp2_with fail
  generalize hW : World.setCell _ _ _ = W
  have hz : w.heap.size ≤ W.heap.size := by subst hW; go_size
  have hB : Below w.heap.size w W := by subst hW; go_grown
  obtain ⟨pa, pb, pc, pd, pe, pf, pz⟩ := cells3 (W := W) (b := w.heap.size) (Below.refl _ W) (by subst hW; go_size) (by subst hW; go_simp <;> rfl) (by subst hW; go_simp <;> rfl) (by subst hW; go_simp <;> rfl) (by subst hW; go_simp <;> rfl) (by subst hW; go_simp <;> rfl) (by subst hW; go_simp <;> rfl)
  obtain ⟨qa, qb, qc, qd, qe, qf, qz⟩ := cells3 (W := W) (b := w.heap.size + 1) (Below.refl _ W) (by subst hW; go_size) (by subst hW; go_simp <;> rfl) (by subst hW; go_simp <;> rfl) (by subst hW; go_simp <;> rfl) (by subst hW; go_simp <;> rfl) (by subst hW; go_simp <;> rfl) (by subst hW; go_simp <;> rfl)
  obtain ⟨ra, rb, rc, rd, rz⟩ := cells2 (W := W) (b := w1.heap.size) (Below.refl _ W) (by subst hW; go_size) (by subst hW; go_simp <;> rfl) (by subst hW; go_simp <;> rfl) (by subst hW; go_simp <;> rfl) (by subst hW; go_simp <;> rfl)
  clear hW p'a p'b p'c p'd p'e p'f p'z q'a q'b q'c q'd q'e q'f q'z r'a r'b r'c r'd r'z
  have Lpa := fun x : Later W.heap.size W => (x.cell pz).trans pa
  have Lpb := fun x : Later W.heap.size W => (x.cell pz).trans pb
  have Lpc := fun x : Later W.heap.size W => (x.cell pz).trans pc
  refine region_later W.heap.size (by kernel_rfl) (by kernel_rfl) ?_
  repeat (go_big_quiet_step ((go_at_call 99; exact later_of (Nat.le_refl _) (Hf.out _))))
  refine wpQuiet_nil ?_
  intro x
  have hx : Below w.heap.size w x.at := hB.trans (x.below.mono hz)
  clear Lpa Lpb Lpc
  obtain ⟨p'a, p'b, p'c, p'd, p'e, p'f, p'z⟩ := cells3 x.below pz pa pb pc pd pe pf
  clear pa pb pc pd pe pf pz
  obtain ⟨q'a, q'b, q'c, q'd, q'e, q'f, q'z⟩ := cells3 x.below qz qa qb qc qd qe qf
  clear qa qb qc qd qe qf qz
  obtain ⟨r'a, r'b, r'c, r'd, r'z⟩ := cells2 x.below rz ra rb rc rd
  clear ra rb rc rd rz
  generalize x.at = w3 at *
  clear x hB hz W
  go_wp2
  refine bodyPost_ret (v := .tuple #[.agg #[.int .u64 (u (norm a).hi), .int .u64 (u (norm a).lo), .bool (norm a).v6], .bool false]) (by simp [*, results, Try.results47, go_sem] <;> rfl) rfl ⟨rfl, ?_⟩
  go_grown

set_option maxHeartbeats 1000000 in
theorem next_four (h l : BitVec 64) (w : World) (hE : adEq (norm ⟨h, l, false⟩) (fillv (norm ⟨h, l, false⟩) 0) = false) :
    Calls Try.prog 47 #[.agg #[.int .u64 (u h), .int .u64 (u l), .bool false]] w
      fun e w' => e = .returned (.tuple #[.agg #[.int .u64 (u (norm ⟨(norm ⟨h, l, false⟩).hi + 4294967296#64, (norm ⟨h, l, false⟩).lo, false⟩).hi), .int .u64 (u (norm ⟨(norm ⟨h, l, false⟩).hi + 4294967296#64, (norm ⟨h, l, false⟩).lo, false⟩).lo), .bool (norm ⟨(norm ⟨h, l, false⟩).hi + 4294967296#64, (norm ⟨h, l, false⟩).lo, false⟩).v6], .bool true]) ∧ Below w.heap.size w w' := by
  have hE' : adB (u (norm ⟨h, l, false⟩).hi) (u (norm ⟨h, l, false⟩).lo) false (u (fillv (norm ⟨h, l, false⟩) 0).hi) (u (fillv (norm ⟨h, l, false⟩) 0).lo) (fillv (norm ⟨h, l, false⟩) 0).v6 = false := hE
  clear hE
  have hv6 : (norm ⟨h, l, false⟩).v6 = false := rfl
  have ha := u_add32 (norm ⟨h, l, false⟩).hi
  go_enter Try.func47, Try.ntmps47
  go_wp2_with fail
  refine (split_any ⟨h, l, false⟩ _).mono ?_
  rintro e w1 ⟨rfl, hw1⟩
  have zw1 := hw1.size
  have bw1 := below_of (w := w) (by go_grown) hw1
  try simp at zw1
  obtain ⟨pa, pb, pc, pd, pe, pf, pz⟩ := cells3 (b := w.heap.size) hw1 (by go_size) (by go_simp <;> rfl) (by go_simp <;> rfl) (by go_simp <;> rfl) (by go_simp <;> rfl) (by go_simp <;> rfl) (by go_simp <;> rfl)
  obtain ⟨qa, qb, qc, qd, qe, qf, qz⟩ := cells3 (b := w.heap.size + 1) hw1 (by go_size) (by go_simp <;> rfl) (by go_simp <;> rfl) (by go_simp <;> rfl) (by go_simp <;> rfl) (by go_simp <;> rfl) (by go_simp <;> rfl)
  clear hw1
  go_wp2_with fail
  refine (whole_norm ⟨h, l, false⟩ _).mono ?_
  rintro e w2 ⟨rfl, hw2⟩
  have zw2 := hw2.size
  have bw2 := below_of (w := w) (by go_grown) hw2
  try simp at zw2
  obtain ⟨p'a, p'b, p'c, p'd, p'e, p'f, p'z⟩ := cells3 (b := w.heap.size) hw2 (by go_size) (by go_simp <;> rfl) (by go_simp <;> rfl) (by go_simp <;> rfl) (by go_simp <;> rfl) (by go_simp <;> rfl) (by go_simp <;> rfl)
  obtain ⟨q'a, q'b, q'c, q'd, q'e, q'f, q'z⟩ := cells3 (b := w.heap.size + 1) hw2 (by go_size) (by go_simp <;> rfl) (by go_simp <;> rfl) (by go_simp <;> rfl) (by go_simp <;> rfl) (by go_simp <;> rfl) (by go_simp <;> rfl)
  obtain ⟨r'a, r'b, r'c, r'd, r'z⟩ := cells2 (b := w1.heap.size) hw2 (by go_size) (by go_simp <;> rfl) (by go_simp <;> rfl) (by go_simp <;> rfl) (by go_simp <;> rfl)
  clear hw2
  have d1 : ¬ w.heap.size = w1.heap.size := by omega
  have d2 : ¬ w.heap.size + 1 = w1.heap.size := by omega
  clear pa pb pc pd pe pf pz qa qb qc qd qe qf qz
  go_wp2_with fail
  generalize hW : World.setCell _ _ _ = W
  have hz : w.heap.size ≤ W.heap.size := by subst hW; go_size
  have hB : Below w.heap.size w W := by subst hW; go_grown
  obtain ⟨pa, pb, pc, pd, pe, pf, pz⟩ := cells3 (W := W) (b := w.heap.size) (Below.refl _ W) (by subst hW; go_size) (by subst hW; go_simp <;> rfl) (by subst hW; go_simp <;> rfl) (by subst hW; go_simp <;> rfl) (by subst hW; go_simp <;> rfl) (by subst hW; go_simp <;> rfl) (by subst hW; go_simp <;> rfl)
  obtain ⟨qa, qb, qc, qd, qe, qf, qz⟩ := cells3 (W := W) (b := w.heap.size + 1) (Below.refl _ W) (by subst hW; go_size) (by subst hW; go_simp <;> rfl) (by subst hW; go_simp <;> rfl) (by subst hW; go_simp <;> rfl) (by subst hW; go_simp <;> rfl) (by subst hW; go_simp <;> rfl) (by subst hW; go_simp <;> rfl)
  obtain ⟨ra, rb, rc, rd, rz⟩ := cells2 (W := W) (b := w1.heap.size) (Below.refl _ W) (by subst hW; go_size) (by subst hW; go_simp <;> rfl) (by subst hW; go_simp <;> rfl) (by subst hW; go_simp <;> rfl) (by subst hW; go_simp <;> rfl)
  clear hW p'a p'b p'c p'd p'e p'f p'z q'a q'b q'c q'd q'e q'f q'z r'a r'b r'c r'd r'z
  have Lpa := fun x : Later W.heap.size W => (x.cell pz).trans pa
  have Lpb := fun x : Later W.heap.size W => (x.cell pz).trans pb
  have Lpc := fun x : Later W.heap.size W => (x.cell pz).trans pc
  refine region_later W.heap.size (by kernel_rfl) (by kernel_rfl) ?_
  repeat (go_big_quiet_step ((go_at_call 99; exact later_of (Nat.le_refl _) (fill_any (norm ⟨h, l, false⟩) 0 _))))
  refine wpQuiet_nil ?_
  intro x
  have hx : Below w.heap.size w x.at := hB.trans (x.below.mono hz)
  clear Lpa Lpb Lpc
  obtain ⟨p'a, p'b, p'c, p'd, p'e, p'f, p'z⟩ := cells3 x.below pz pa pb pc pd pe pf
  clear pa pb pc pd pe pf pz
  obtain ⟨q'a, q'b, q'c, q'd, q'e, q'f, q'z⟩ := cells3 x.below qz qa qb qc qd qe qf
  clear qa qb qc qd qe qf qz
  obtain ⟨r'a, r'b, r'c, r'd, r'z⟩ := cells2 x.below rz ra rb rc rd
  clear ra rb rc rd rz
  generalize x.at = w3 at *
  clear x hB hz W
  go_wp2_with fail
  refine (whole_any ⟨(norm ⟨h, l, false⟩).hi + 4294967296#64, (norm ⟨h, l, false⟩).lo, false⟩ _).mono ?_
  rintro e w4 ⟨rfl, hw4⟩
  have zw4 := hw4.size
  have bw4 := below_of (w := w) (by go_grown) hw4
  try simp at zw4
  obtain ⟨qa, qb, qc, qd, qe, qf, qz⟩ := cells3 (b := w.heap.size + 1) hw4 (by go_size) (by go_simp <;> rfl) (by go_simp <;> rfl) (by go_simp <;> rfl) (by go_simp <;> rfl) (by go_simp <;> rfl) (by go_simp <;> rfl)
  clear hw4
  go_wp2
  refine bodyPost_ret (v := .tuple #[.agg #[.int .u64 (u (norm ⟨(norm ⟨h, l, false⟩).hi + 4294967296#64, (norm ⟨h, l, false⟩).lo, false⟩).hi), .int .u64 (u (norm ⟨(norm ⟨h, l, false⟩).hi + 4294967296#64, (norm ⟨h, l, false⟩).lo, false⟩).lo), .bool (norm ⟨(norm ⟨h, l, false⟩).hi + 4294967296#64, (norm ⟨h, l, false⟩).lo, false⟩).v6], .bool true]) (by simp [*, results, Try.results47, go_sem] <;> rfl) rfl ⟨rfl, ?_⟩
  go_grown

set_option maxHeartbeats 1000000 in
theorem next_six (h l : BitVec 64) (w : World) (hE : adEq (norm ⟨h, l, true⟩) (fillv (norm ⟨h, l, true⟩) 0) = false) (hz0 : (u ((norm ⟨h, l, true⟩).lo + 1#64) == 0) = false) :
    Calls Try.prog 47 #[.agg #[.int .u64 (u h), .int .u64 (u l), .bool true]] w
      fun e w' => e = .returned (.tuple #[.agg #[.int .u64 (u (norm ⟨(norm ⟨h, l, true⟩).hi, (norm ⟨h, l, true⟩).lo + 1#64, true⟩).hi), .int .u64 (u (norm ⟨(norm ⟨h, l, true⟩).hi, (norm ⟨h, l, true⟩).lo + 1#64, true⟩).lo), .bool (norm ⟨(norm ⟨h, l, true⟩).hi, (norm ⟨h, l, true⟩).lo + 1#64, true⟩).v6], .bool true]) ∧ Below w.heap.size w w' := by
  have hE' : adB (u (norm ⟨h, l, true⟩).hi) (u (norm ⟨h, l, true⟩).lo) true (u (fillv (norm ⟨h, l, true⟩) 0).hi) (u (fillv (norm ⟨h, l, true⟩) 0).lo) (fillv (norm ⟨h, l, true⟩) 0).v6 = false := hE
  clear hE
  have hv6 : (norm ⟨h, l, true⟩).v6 = true := rfl
  have ha := u_add1 (norm ⟨h, l, true⟩).lo
  go_enter Try.func47, Try.ntmps47
  go_wp2_with fail
  refine (split_any ⟨h, l, true⟩ _).mono ?_
  rintro e w1 ⟨rfl, hw1⟩
  have zw1 := hw1.size
  have bw1 := below_of (w := w) (by go_grown) hw1
  try simp at zw1
  obtain ⟨pa, pb, pc, pd, pe, pf, pz⟩ := cells3 (b := w.heap.size) hw1 (by go_size) (by go_simp <;> rfl) (by go_simp <;> rfl) (by go_simp <;> rfl) (by go_simp <;> rfl) (by go_simp <;> rfl) (by go_simp <;> rfl)
  obtain ⟨qa, qb, qc, qd, qe, qf, qz⟩ := cells3 (b := w.heap.size + 1) hw1 (by go_size) (by go_simp <;> rfl) (by go_simp <;> rfl) (by go_simp <;> rfl) (by go_simp <;> rfl) (by go_simp <;> rfl) (by go_simp <;> rfl)
  clear hw1
  go_wp2_with fail
  refine (whole_norm ⟨h, l, true⟩ _).mono ?_
  rintro e w2 ⟨rfl, hw2⟩
  have zw2 := hw2.size
  have bw2 := below_of (w := w) (by go_grown) hw2
  try simp at zw2
  obtain ⟨p'a, p'b, p'c, p'd, p'e, p'f, p'z⟩ := cells3 (b := w.heap.size) hw2 (by go_size) (by go_simp <;> rfl) (by go_simp <;> rfl) (by go_simp <;> rfl) (by go_simp <;> rfl) (by go_simp <;> rfl) (by go_simp <;> rfl)
  obtain ⟨q'a, q'b, q'c, q'd, q'e, q'f, q'z⟩ := cells3 (b := w.heap.size + 1) hw2 (by go_size) (by go_simp <;> rfl) (by go_simp <;> rfl) (by go_simp <;> rfl) (by go_simp <;> rfl) (by go_simp <;> rfl) (by go_simp <;> rfl)
  obtain ⟨r'a, r'b, r'c, r'd, r'z⟩ := cells2 (b := w1.heap.size) hw2 (by go_size) (by go_simp <;> rfl) (by go_simp <;> rfl) (by go_simp <;> rfl) (by go_simp <;> rfl)
  clear hw2
  have d1 : ¬ w.heap.size = w1.heap.size := by omega
  have d2 : ¬ w.heap.size + 1 = w1.heap.size := by omega
  clear pa pb pc pd pe pf pz qa qb qc qd qe qf qz
  go_wp2_with fail
  generalize hW : World.setCell _ _ _ = W
  have hz : w.heap.size ≤ W.heap.size := by subst hW; go_size
  have hB : Below w.heap.size w W := by subst hW; go_grown
  obtain ⟨pa, pb, pc, pd, pe, pf, pz⟩ := cells3 (W := W) (b := w.heap.size) (Below.refl _ W) (by subst hW; go_size) (by subst hW; go_simp <;> rfl) (by subst hW; go_simp <;> rfl) (by subst hW; go_simp <;> rfl) (by subst hW; go_simp <;> rfl) (by subst hW; go_simp <;> rfl) (by subst hW; go_simp <;> rfl)
  obtain ⟨qa, qb, qc, qd, qe, qf, qz⟩ := cells3 (W := W) (b := w.heap.size + 1) (Below.refl _ W) (by subst hW; go_size) (by subst hW; go_simp <;> rfl) (by subst hW; go_simp <;> rfl) (by subst hW; go_simp <;> rfl) (by subst hW; go_simp <;> rfl) (by subst hW; go_simp <;> rfl) (by subst hW; go_simp <;> rfl)
  obtain ⟨ra, rb, rc, rd, rz⟩ := cells2 (W := W) (b := w1.heap.size) (Below.refl _ W) (by subst hW; go_size) (by subst hW; go_simp <;> rfl) (by subst hW; go_simp <;> rfl) (by subst hW; go_simp <;> rfl) (by subst hW; go_simp <;> rfl)
  clear hW p'a p'b p'c p'd p'e p'f p'z q'a q'b q'c q'd q'e q'f q'z r'a r'b r'c r'd r'z
  have Lpa := fun x : Later W.heap.size W => (x.cell pz).trans pa
  have Lpb := fun x : Later W.heap.size W => (x.cell pz).trans pb
  have Lpc := fun x : Later W.heap.size W => (x.cell pz).trans pc
  refine region_later W.heap.size (by kernel_rfl) (by kernel_rfl) ?_
  repeat (go_big_quiet_step ((go_at_call 99; exact later_of (Nat.le_refl _) (fill_any (norm ⟨h, l, true⟩) 0 _))))
  refine wpQuiet_nil ?_
  intro x
  have hx : Below w.heap.size w x.at := hB.trans (x.below.mono hz)
  clear Lpa Lpb Lpc
  obtain ⟨p'a, p'b, p'c, p'd, p'e, p'f, p'z⟩ := cells3 x.below pz pa pb pc pd pe pf
  clear pa pb pc pd pe pf pz
  obtain ⟨q'a, q'b, q'c, q'd, q'e, q'f, q'z⟩ := cells3 x.below qz qa qb qc qd qe qf
  clear qa qb qc qd qe qf qz
  obtain ⟨r'a, r'b, r'c, r'd, r'z⟩ := cells2 x.below rz ra rb rc rd
  clear ra rb rc rd rz
  generalize x.at = w3 at *
  clear x hB hz W
  go_wp2_with fail
  refine (whole_any ⟨(norm ⟨h, l, true⟩).hi, (norm ⟨h, l, true⟩).lo + 1#64, true⟩ _).mono ?_
  rintro e w4 ⟨rfl, hw4⟩
  have zw4 := hw4.size
  have bw4 := below_of (w := w) (by go_grown) hw4
  try simp at zw4
  obtain ⟨qa, qb, qc, qd, qe, qf, qz⟩ := cells3 (b := w.heap.size + 1) hw4 (by go_size) (by go_simp <;> rfl) (by go_simp <;> rfl) (by go_simp <;> rfl) (by go_simp <;> rfl) (by go_simp <;> rfl) (by go_simp <;> rfl)
  clear hw4
  go_wp2
  refine bodyPost_ret (v := .tuple #[.agg #[.int .u64 (u (norm ⟨(norm ⟨h, l, true⟩).hi, (norm ⟨h, l, true⟩).lo + 1#64, true⟩).hi), .int .u64 (u (norm ⟨(norm ⟨h, l, true⟩).hi, (norm ⟨h, l, true⟩).lo + 1#64, true⟩).lo), .bool (norm ⟨(norm ⟨h, l, true⟩).hi, (norm ⟨h, l, true⟩).lo + 1#64, true⟩).v6], .bool true]) (by simp [*, results, Try.results47, go_sem] <;> rfl) rfl ⟨rfl, ?_⟩
  go_grown

set_option maxHeartbeats 1000000 in
theorem next_carry (h l : BitVec 64) (w : World) (hE : adEq (norm ⟨h, l, true⟩) (fillv (norm ⟨h, l, true⟩) 0) = false) (hz0 : (u ((norm ⟨h, l, true⟩).lo + 1#64) == 0) = true) :
    Calls Try.prog 47 #[.agg #[.int .u64 (u h), .int .u64 (u l), .bool true]] w
      fun e w' => e = .returned (.tuple #[.agg #[.int .u64 (u (norm ⟨(norm ⟨h, l, true⟩).hi + 1#64, (norm ⟨h, l, true⟩).lo + 1#64, true⟩).hi), .int .u64 (u (norm ⟨(norm ⟨h, l, true⟩).hi + 1#64, (norm ⟨h, l, true⟩).lo + 1#64, true⟩).lo), .bool (norm ⟨(norm ⟨h, l, true⟩).hi + 1#64, (norm ⟨h, l, true⟩).lo + 1#64, true⟩).v6], .bool true]) ∧ Below w.heap.size w w' := by
  have hE' : adB (u (norm ⟨h, l, true⟩).hi) (u (norm ⟨h, l, true⟩).lo) true (u (fillv (norm ⟨h, l, true⟩) 0).hi) (u (fillv (norm ⟨h, l, true⟩) 0).lo) (fillv (norm ⟨h, l, true⟩) 0).v6 = false := hE
  clear hE
  have hv6 : (norm ⟨h, l, true⟩).v6 = true := rfl
  have ha := u_add1 (norm ⟨h, l, true⟩).lo
  have hb := u_add1 (norm ⟨h, l, true⟩).hi
  go_enter Try.func47, Try.ntmps47
  go_wp2_with fail
  refine (split_any ⟨h, l, true⟩ _).mono ?_
  rintro e w1 ⟨rfl, hw1⟩
  have zw1 := hw1.size
  have bw1 := below_of (w := w) (by go_grown) hw1
  try simp at zw1
  obtain ⟨pa, pb, pc, pd, pe, pf, pz⟩ := cells3 (b := w.heap.size) hw1 (by go_size) (by go_simp <;> rfl) (by go_simp <;> rfl) (by go_simp <;> rfl) (by go_simp <;> rfl) (by go_simp <;> rfl) (by go_simp <;> rfl)
  obtain ⟨qa, qb, qc, qd, qe, qf, qz⟩ := cells3 (b := w.heap.size + 1) hw1 (by go_size) (by go_simp <;> rfl) (by go_simp <;> rfl) (by go_simp <;> rfl) (by go_simp <;> rfl) (by go_simp <;> rfl) (by go_simp <;> rfl)
  clear hw1
  go_wp2_with fail
  refine (whole_norm ⟨h, l, true⟩ _).mono ?_
  rintro e w2 ⟨rfl, hw2⟩
  have zw2 := hw2.size
  have bw2 := below_of (w := w) (by go_grown) hw2
  try simp at zw2
  obtain ⟨p'a, p'b, p'c, p'd, p'e, p'f, p'z⟩ := cells3 (b := w.heap.size) hw2 (by go_size) (by go_simp <;> rfl) (by go_simp <;> rfl) (by go_simp <;> rfl) (by go_simp <;> rfl) (by go_simp <;> rfl) (by go_simp <;> rfl)
  obtain ⟨q'a, q'b, q'c, q'd, q'e, q'f, q'z⟩ := cells3 (b := w.heap.size + 1) hw2 (by go_size) (by go_simp <;> rfl) (by go_simp <;> rfl) (by go_simp <;> rfl) (by go_simp <;> rfl) (by go_simp <;> rfl) (by go_simp <;> rfl)
  obtain ⟨r'a, r'b, r'c, r'd, r'z⟩ := cells2 (b := w1.heap.size) hw2 (by go_size) (by go_simp <;> rfl) (by go_simp <;> rfl) (by go_simp <;> rfl) (by go_simp <;> rfl)
  clear hw2
  have d1 : ¬ w.heap.size = w1.heap.size := by omega
  have d2 : ¬ w.heap.size + 1 = w1.heap.size := by omega
  clear pa pb pc pd pe pf pz qa qb qc qd qe qf qz
  go_wp2_with fail
  generalize hW : World.setCell _ _ _ = W
  have hz : w.heap.size ≤ W.heap.size := by subst hW; go_size
  have hB : Below w.heap.size w W := by subst hW; go_grown
  obtain ⟨pa, pb, pc, pd, pe, pf, pz⟩ := cells3 (W := W) (b := w.heap.size) (Below.refl _ W) (by subst hW; go_size) (by subst hW; go_simp <;> rfl) (by subst hW; go_simp <;> rfl) (by subst hW; go_simp <;> rfl) (by subst hW; go_simp <;> rfl) (by subst hW; go_simp <;> rfl) (by subst hW; go_simp <;> rfl)
  obtain ⟨qa, qb, qc, qd, qe, qf, qz⟩ := cells3 (W := W) (b := w.heap.size + 1) (Below.refl _ W) (by subst hW; go_size) (by subst hW; go_simp <;> rfl) (by subst hW; go_simp <;> rfl) (by subst hW; go_simp <;> rfl) (by subst hW; go_simp <;> rfl) (by subst hW; go_simp <;> rfl) (by subst hW; go_simp <;> rfl)
  obtain ⟨ra, rb, rc, rd, rz⟩ := cells2 (W := W) (b := w1.heap.size) (Below.refl _ W) (by subst hW; go_size) (by subst hW; go_simp <;> rfl) (by subst hW; go_simp <;> rfl) (by subst hW; go_simp <;> rfl) (by subst hW; go_simp <;> rfl)
  clear hW p'a p'b p'c p'd p'e p'f p'z q'a q'b q'c q'd q'e q'f q'z r'a r'b r'c r'd r'z
  have Lpa := fun x : Later W.heap.size W => (x.cell pz).trans pa
  have Lpb := fun x : Later W.heap.size W => (x.cell pz).trans pb
  have Lpc := fun x : Later W.heap.size W => (x.cell pz).trans pc
  refine region_later W.heap.size (by kernel_rfl) (by kernel_rfl) ?_
  repeat (go_big_quiet_step ((go_at_call 99; exact later_of (Nat.le_refl _) (fill_any (norm ⟨h, l, true⟩) 0 _))))
  refine wpQuiet_nil ?_
  intro x
  have hx : Below w.heap.size w x.at := hB.trans (x.below.mono hz)
  clear Lpa Lpb Lpc
  obtain ⟨p'a, p'b, p'c, p'd, p'e, p'f, p'z⟩ := cells3 x.below pz pa pb pc pd pe pf
  clear pa pb pc pd pe pf pz
  obtain ⟨q'a, q'b, q'c, q'd, q'e, q'f, q'z⟩ := cells3 x.below qz qa qb qc qd qe qf
  clear qa qb qc qd qe qf qz
  obtain ⟨r'a, r'b, r'c, r'd, r'z⟩ := cells2 x.below rz ra rb rc rd
  clear ra rb rc rd rz
  generalize x.at = w3 at *
  clear x hB hz W
  go_wp2_with fail
  refine (whole_any ⟨(norm ⟨h, l, true⟩).hi + 1#64, (norm ⟨h, l, true⟩).lo + 1#64, true⟩ _).mono ?_
  rintro e w4 ⟨rfl, hw4⟩
  have zw4 := hw4.size
  have bw4 := below_of (w := w) (by go_grown) hw4
  try simp at zw4
  obtain ⟨qa, qb, qc, qd, qe, qf, qz⟩ := cells3 (b := w.heap.size + 1) hw4 (by go_size) (by go_simp <;> rfl) (by go_simp <;> rfl) (by go_simp <;> rfl) (by go_simp <;> rfl) (by go_simp <;> rfl) (by go_simp <;> rfl)
  clear hw4
  go_wp2
  refine bodyPost_ret (v := .tuple #[.agg #[.int .u64 (u (norm ⟨(norm ⟨h, l, true⟩).hi + 1#64, (norm ⟨h, l, true⟩).lo + 1#64, true⟩).hi), .int .u64 (u (norm ⟨(norm ⟨h, l, true⟩).hi + 1#64, (norm ⟨h, l, true⟩).lo + 1#64, true⟩).lo), .bool (norm ⟨(norm ⟨h, l, true⟩).hi + 1#64, (norm ⟨h, l, true⟩).lo + 1#64, true⟩).v6], .bool true]) (by simp [*, results, Try.results47, go_sem] <;> rfl) rfl ⟨rfl, ?_⟩
  go_grown

theorem next_any (a : Ad) (w : World) :
    Calls Try.prog 47 #[.agg #[.int .u64 (u a.hi), .int .u64 (u a.lo), .bool a.v6]] w fun e w' => e = .returned (.tuple #[.agg #[.int .u64 (u (nextv a).1.hi), .int .u64 (u (nextv a).1.lo), .bool (nextv a).1.v6], .bool (nextv a).2]) ∧ Below w.heap.size w w' := by
  cases hE : adEq (norm a) (fillv (norm a) 0)
  · obtain ⟨h, l, v⟩ := a
    cases v
    · have hv : nextv ⟨h, l, false⟩ = (norm ⟨(norm ⟨h, l, false⟩).hi + 4294967296#64, (norm ⟨h, l, false⟩).lo, false⟩, true) := by
        unfold nextv
        rw [hE, if_neg (by decide), if_pos rfl]
      rw [hv]
      exact next_four h l w hE
    · cases hz : (u ((norm ⟨h, l, true⟩).lo + 1#64) == 0)
      · have hv : nextv ⟨h, l, true⟩ = (norm ⟨(norm ⟨h, l, true⟩).hi, (norm ⟨h, l, true⟩).lo + 1#64, true⟩, true) := by
          unfold nextv
          rw [hE, if_neg (by decide), if_neg (by simp), if_neg (by simpa using hz)]
        rw [hv]
        exact next_six h l w hE hz
      · have hv : nextv ⟨h, l, true⟩ = (norm ⟨(norm ⟨h, l, true⟩).hi + 1#64, (norm ⟨h, l, true⟩).lo + 1#64, true⟩, true) := by
          unfold nextv
          rw [hE, if_neg (by decide), if_neg (by simp), if_pos (by simpa using hz)]
        rw [hv]
        exact next_carry h l w hE hz
  · exact next_max a w hE

end Go.Proofs.Ythdnpilkkegniaa
