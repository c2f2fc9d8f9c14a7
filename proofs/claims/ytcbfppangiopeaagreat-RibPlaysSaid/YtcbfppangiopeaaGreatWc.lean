/-
  What Set of package addr returns. No condition.
-/
import Derived.Test.YtcbfppangiopeaaGreatWb
namespace Go.Proofs.YtcbfppangiopeaaGreat
open Go.RowKit

def odd (v : Int) : Bool := bits .and .i64 v 1 == 1
def digitAt (i : Int) : BitVec 64 := 1#64 <<< (plc i).toNat
def putDigit (x : BitVec 64) (i v : Int) : BitVec 64 := if odd v = true then (x &&& ~~~ digitAt i) ||| digitAt i else x &&& ~~~ digitAt i
def setv (a : Ad) (i v : Int) : Ad :=
  if inW a.v6 i = true then (if i < 64 then norm ⟨putDigit (norm a).hi i v, (norm a).lo, a.v6⟩ else norm ⟨(norm a).hi, putDigit (norm a).lo i v, a.v6⟩) else norm (norm a)

theorem shl_of (c : Int) : IntKind.u64.wrap (2 ^ c.toNat) = u (1#64 <<< c.toNat) := by
  rw [← u_shl, show u 1#64 = 1 from by decide, Int.one_mul]

set_option maxHeartbeats 400000 in
theorem set_any (a : Ad) (i v : Int) (w : World) :
    Calls Tryz.prog 99 #[.agg #[.int .u64 (u a.hi), .int .u64 (u a.lo), .bool a.v6], .int .i64 i, .int .i64 v] w fun e w' => e = .returned (.agg #[.int .u64 (u (setv a i v).hi), .int .u64 (u (setv a i v).lo), .bool (setv a i v).v6]) ∧ Below w.heap.size w w' := by
  cases hin : inW a.v6 i
  · have hv : Hid (setv a i v = norm (norm a)) := by unfold setv; rw [hin]; rfl
    have hin' := Lib.hid hin
    clear hin
    rw [hv.out]
    go_enter Tryz.func99, Tryz.ntmps99
    go_wp2_with fail
    refine (split_any a _).mono ?_
    rintro e w1 ⟨rfl, hw1⟩
    have zw1 := hw1.size
    have bw1 := below_of (w := w) (by go_grown) hw1
    try simp at zw1
    obtain ⟨pa, pb, pc, pd, pe, pf, pz⟩ := cells3 (b := w.heap.size) hw1 (by go_size) (by go_simp <;> rfl) (by go_simp <;> rfl) (by go_simp <;> rfl) (by go_simp <;> rfl) (by go_simp <;> rfl) (by go_simp <;> rfl)
    obtain ⟨qa, qb, qc, qd, qe, qf, qz⟩ := cells3 (b := w.heap.size + 1) hw1 (by go_size) (by go_simp <;> rfl) (by go_simp <;> rfl) (by go_simp <;> rfl) (by go_simp <;> rfl) (by go_simp <;> rfl) (by go_simp <;> rfl)
    clear hw1
    go_wp2_with fail
    refine (there_any a i _).mono ?_
    rintro e w2 ⟨rfl, hw2⟩
    have zw2 := hw2.size
    have bw2 := below_of (w := w) (by go_grown) hw2
    try simp at zw2
    rw [hin'.out]
    obtain ⟨pa, pb, pc, pd, pe, pf, pz⟩ := cells3 (b := w.heap.size) hw2 (by go_size) (by go_simp <;> rfl) (by go_simp <;> rfl) (by go_simp <;> rfl) (by go_simp <;> rfl) (by go_simp <;> rfl) (by go_simp <;> rfl)
    obtain ⟨qa, qb, qc, qd, qe, qf, qz⟩ := cells3 (b := w.heap.size + 1) hw2 (by go_size) (by go_simp <;> rfl) (by go_simp <;> rfl) (by go_simp <;> rfl) (by go_simp <;> rfl) (by go_simp <;> rfl) (by go_simp <;> rfl)
    obtain ⟨ra, rb, rc, rd, rz⟩ := cells2 (b := w1.heap.size) hw2 (by go_size) (by go_simp <;> rfl) (by go_simp <;> rfl) (by go_simp <;> rfl) (by go_simp <;> rfl)
    clear hw2
    go_wp2_with fail
    refine (whole_any (norm a) _).mono ?_
    rintro e w3 ⟨rfl, hw3⟩
    have zw3 := hw3.size
    have bw3 := below_of (w := w) (by go_grown) hw3
    try simp at zw3
    obtain ⟨qa, qb, qc, qd, qe, qf, qz⟩ := cells3 (b := w.heap.size + 1) hw3 (by go_size) (by go_simp <;> rfl) (by go_simp <;> rfl) (by go_simp <;> rfl) (by go_simp <;> rfl) (by go_simp <;> rfl) (by go_simp <;> rfl)
    clear hw3
    go_wp2
    refine bodyPost_ret (v := .agg #[.int .u64 (u (norm (norm a)).hi), .int .u64 (u (norm (norm a)).lo), .bool (norm (norm a)).v6]) (by simp [*, results, Tryz.results99, go_sem] <;> rfl) rfl ⟨rfl, ?_⟩
    go_grown
  · obtain ⟨h0, h1⟩ := inW_bd hin
    obtain ⟨p0, p1⟩ := plc_bd i
    have hin' := Lib.hid hin
    clear hin
    have hm : min (plc i).toNat 64 = (plc i).toNat := by omega
    have hs : IntKind.u64.wrap (2 ^ (plc i).toNat) = u (digitAt i) := shl_of (plc i)
    by_cases h64 : i < 64
    · have hq : i / 64 = 0 := by omega
      cases ho : odd v
      · have hv : Hid (setv a i v = norm ⟨((norm a).hi &&& ~~~ digitAt i), (norm a).lo, a.v6⟩) := by unfold setv putDigit; rw [if_pos hin'.out, if_pos h64, ho]; rfl
        have ho' : (bits .and .i64 v 1 == 1) = false := ho
        rw [hv.out]
        clear ho
        have ha := u_andNot (norm a).hi (digitAt i)
        go_enter Tryz.func99, Tryz.ntmps99
        go_wp2_with fail
        refine (split_any a _).mono ?_
        rintro e w1 ⟨rfl, hw1⟩
        have zw1 := hw1.size
        have bw1 := below_of (w := w) (by go_grown) hw1
        try simp at zw1
        obtain ⟨pa, pb, pc, pd, pe, pf, pz⟩ := cells3 (b := w.heap.size) hw1 (by go_size) (by go_simp <;> rfl) (by go_simp <;> rfl) (by go_simp <;> rfl) (by go_simp <;> rfl) (by go_simp <;> rfl) (by go_simp <;> rfl)
        obtain ⟨qa, qb, qc, qd, qe, qf, qz⟩ := cells3 (b := w.heap.size + 1) hw1 (by go_size) (by go_simp <;> rfl) (by go_simp <;> rfl) (by go_simp <;> rfl) (by go_simp <;> rfl) (by go_simp <;> rfl) (by go_simp <;> rfl)
        clear hw1
        go_wp2_with fail
        refine (there_any a i _).mono ?_
        rintro e w2 ⟨rfl, hw2⟩
        have zw2 := hw2.size
        have bw2 := below_of (w := w) (by go_grown) hw2
        try simp at zw2
        rw [hin'.out]
        obtain ⟨pa, pb, pc, pd, pe, pf, pz⟩ := cells3 (b := w.heap.size) hw2 (by go_size) (by go_simp <;> rfl) (by go_simp <;> rfl) (by go_simp <;> rfl) (by go_simp <;> rfl) (by go_simp <;> rfl) (by go_simp <;> rfl)
        obtain ⟨qa, qb, qc, qd, qe, qf, qz⟩ := cells3 (b := w.heap.size + 1) hw2 (by go_size) (by go_simp <;> rfl) (by go_simp <;> rfl) (by go_simp <;> rfl) (by go_simp <;> rfl) (by go_simp <;> rfl) (by go_simp <;> rfl)
        obtain ⟨ra, rb, rc, rd, rz⟩ := cells2 (b := w1.heap.size) hw2 (by go_size) (by go_simp <;> rfl) (by go_simp <;> rfl) (by go_simp <;> rfl) (by go_simp <;> rfl)
        clear hw2
        go_wp2_with fail
        refine (place_any i h0 h1 _).mono ?_
        rintro e w5 ⟨rfl, rfl⟩
        go_wp2_with fail
        refine (whole_any ⟨((norm a).hi &&& ~~~ digitAt i), (norm a).lo, a.v6⟩ _).mono ?_
        rintro e w3 ⟨rfl, hw3⟩
        have zw3 := hw3.size
        have bw3 := below_of (w := w) (by go_grown) hw3
        try simp at zw3
        obtain ⟨sa, sb, sc, sd, se, sf, sz⟩ := cells3 (b := w.heap.size + 1) hw3 (by go_size) (by go_simp <;> rfl) (by go_simp <;> rfl) (by go_simp <;> rfl) (by go_simp <;> rfl) (by go_simp <;> rfl) (by go_simp <;> rfl)
        clear hw3
        go_wp2
        refine bodyPost_ret (v := .agg #[.int .u64 (u (norm ⟨((norm a).hi &&& ~~~ digitAt i), (norm a).lo, a.v6⟩).hi), .int .u64 (u (norm ⟨((norm a).hi &&& ~~~ digitAt i), (norm a).lo, a.v6⟩).lo), .bool (norm ⟨((norm a).hi &&& ~~~ digitAt i), (norm a).lo, a.v6⟩).v6]) (by simp [*, results, Tryz.results99, go_sem] <;> rfl) rfl ⟨rfl, ?_⟩
        go_grown
      · have hv : Hid (setv a i v = norm ⟨(((norm a).hi &&& ~~~ digitAt i) ||| digitAt i), (norm a).lo, a.v6⟩) := by unfold setv putDigit; rw [if_pos hin'.out, if_pos h64, ho]; rfl
        have ho' : (bits .and .i64 v 1 == 1) = true := ho
        rw [hv.out]
        clear ho
        have ha := u_andNot (norm a).hi (digitAt i)
        have hb := u_or ((norm a).hi &&& ~~~ digitAt i) (digitAt i)
        go_enter Tryz.func99, Tryz.ntmps99
        go_wp2_with fail
        refine (split_any a _).mono ?_
        rintro e w1 ⟨rfl, hw1⟩
        have zw1 := hw1.size
        have bw1 := below_of (w := w) (by go_grown) hw1
        try simp at zw1
        obtain ⟨pa, pb, pc, pd, pe, pf, pz⟩ := cells3 (b := w.heap.size) hw1 (by go_size) (by go_simp <;> rfl) (by go_simp <;> rfl) (by go_simp <;> rfl) (by go_simp <;> rfl) (by go_simp <;> rfl) (by go_simp <;> rfl)
        obtain ⟨qa, qb, qc, qd, qe, qf, qz⟩ := cells3 (b := w.heap.size + 1) hw1 (by go_size) (by go_simp <;> rfl) (by go_simp <;> rfl) (by go_simp <;> rfl) (by go_simp <;> rfl) (by go_simp <;> rfl) (by go_simp <;> rfl)
        clear hw1
        go_wp2_with fail
        refine (there_any a i _).mono ?_
        rintro e w2 ⟨rfl, hw2⟩
        have zw2 := hw2.size
        have bw2 := below_of (w := w) (by go_grown) hw2
        try simp at zw2
        rw [hin'.out]
        obtain ⟨pa, pb, pc, pd, pe, pf, pz⟩ := cells3 (b := w.heap.size) hw2 (by go_size) (by go_simp <;> rfl) (by go_simp <;> rfl) (by go_simp <;> rfl) (by go_simp <;> rfl) (by go_simp <;> rfl) (by go_simp <;> rfl)
        obtain ⟨qa, qb, qc, qd, qe, qf, qz⟩ := cells3 (b := w.heap.size + 1) hw2 (by go_size) (by go_simp <;> rfl) (by go_simp <;> rfl) (by go_simp <;> rfl) (by go_simp <;> rfl) (by go_simp <;> rfl) (by go_simp <;> rfl)
        obtain ⟨ra, rb, rc, rd, rz⟩ := cells2 (b := w1.heap.size) hw2 (by go_size) (by go_simp <;> rfl) (by go_simp <;> rfl) (by go_simp <;> rfl) (by go_simp <;> rfl)
        clear hw2
        go_wp2_with fail
        refine (place_any i h0 h1 _).mono ?_
        rintro e w5 ⟨rfl, rfl⟩
        go_wp2_with fail
        refine (whole_any ⟨(((norm a).hi &&& ~~~ digitAt i) ||| digitAt i), (norm a).lo, a.v6⟩ _).mono ?_
        rintro e w3 ⟨rfl, hw3⟩
        have zw3 := hw3.size
        have bw3 := below_of (w := w) (by go_grown) hw3
        try simp at zw3
        obtain ⟨sa, sb, sc, sd, se, sf, sz⟩ := cells3 (b := w.heap.size + 1) hw3 (by go_size) (by go_simp <;> rfl) (by go_simp <;> rfl) (by go_simp <;> rfl) (by go_simp <;> rfl) (by go_simp <;> rfl) (by go_simp <;> rfl)
        clear hw3
        go_wp2
        refine bodyPost_ret (v := .agg #[.int .u64 (u (norm ⟨(((norm a).hi &&& ~~~ digitAt i) ||| digitAt i), (norm a).lo, a.v6⟩).hi), .int .u64 (u (norm ⟨(((norm a).hi &&& ~~~ digitAt i) ||| digitAt i), (norm a).lo, a.v6⟩).lo), .bool (norm ⟨(((norm a).hi &&& ~~~ digitAt i) ||| digitAt i), (norm a).lo, a.v6⟩).v6]) (by simp [*, results, Tryz.results99, go_sem] <;> rfl) rfl ⟨rfl, ?_⟩
        go_grown
    · have hq : i / 64 = 1 := by omega
      cases ho : odd v
      · have hv : Hid (setv a i v = norm ⟨(norm a).hi, ((norm a).lo &&& ~~~ digitAt i), a.v6⟩) := by unfold setv putDigit; rw [if_pos hin'.out, if_neg h64, ho]; rfl
        have ho' : (bits .and .i64 v 1 == 1) = false := ho
        rw [hv.out]
        clear ho
        have ha := u_andNot (norm a).lo (digitAt i)
        go_enter Tryz.func99, Tryz.ntmps99
        go_wp2_with fail
        refine (split_any a _).mono ?_
        rintro e w1 ⟨rfl, hw1⟩
        have zw1 := hw1.size
        have bw1 := below_of (w := w) (by go_grown) hw1
        try simp at zw1
        obtain ⟨pa, pb, pc, pd, pe, pf, pz⟩ := cells3 (b := w.heap.size) hw1 (by go_size) (by go_simp <;> rfl) (by go_simp <;> rfl) (by go_simp <;> rfl) (by go_simp <;> rfl) (by go_simp <;> rfl) (by go_simp <;> rfl)
        obtain ⟨qa, qb, qc, qd, qe, qf, qz⟩ := cells3 (b := w.heap.size + 1) hw1 (by go_size) (by go_simp <;> rfl) (by go_simp <;> rfl) (by go_simp <;> rfl) (by go_simp <;> rfl) (by go_simp <;> rfl) (by go_simp <;> rfl)
        clear hw1
        go_wp2_with fail
        refine (there_any a i _).mono ?_
        rintro e w2 ⟨rfl, hw2⟩
        have zw2 := hw2.size
        have bw2 := below_of (w := w) (by go_grown) hw2
        try simp at zw2
        rw [hin'.out]
        obtain ⟨pa, pb, pc, pd, pe, pf, pz⟩ := cells3 (b := w.heap.size) hw2 (by go_size) (by go_simp <;> rfl) (by go_simp <;> rfl) (by go_simp <;> rfl) (by go_simp <;> rfl) (by go_simp <;> rfl) (by go_simp <;> rfl)
        obtain ⟨qa, qb, qc, qd, qe, qf, qz⟩ := cells3 (b := w.heap.size + 1) hw2 (by go_size) (by go_simp <;> rfl) (by go_simp <;> rfl) (by go_simp <;> rfl) (by go_simp <;> rfl) (by go_simp <;> rfl) (by go_simp <;> rfl)
        obtain ⟨ra, rb, rc, rd, rz⟩ := cells2 (b := w1.heap.size) hw2 (by go_size) (by go_simp <;> rfl) (by go_simp <;> rfl) (by go_simp <;> rfl) (by go_simp <;> rfl)
        clear hw2
        go_wp2_with fail
        refine (place_any i h0 h1 _).mono ?_
        rintro e w5 ⟨rfl, rfl⟩
        go_wp2_with fail
        refine (whole_any ⟨(norm a).hi, ((norm a).lo &&& ~~~ digitAt i), a.v6⟩ _).mono ?_
        rintro e w3 ⟨rfl, hw3⟩
        have zw3 := hw3.size
        have bw3 := below_of (w := w) (by go_grown) hw3
        try simp at zw3
        obtain ⟨sa, sb, sc, sd, se, sf, sz⟩ := cells3 (b := w.heap.size + 1) hw3 (by go_size) (by go_simp <;> rfl) (by go_simp <;> rfl) (by go_simp <;> rfl) (by go_simp <;> rfl) (by go_simp <;> rfl) (by go_simp <;> rfl)
        clear hw3
        go_wp2
        refine bodyPost_ret (v := .agg #[.int .u64 (u (norm ⟨(norm a).hi, ((norm a).lo &&& ~~~ digitAt i), a.v6⟩).hi), .int .u64 (u (norm ⟨(norm a).hi, ((norm a).lo &&& ~~~ digitAt i), a.v6⟩).lo), .bool (norm ⟨(norm a).hi, ((norm a).lo &&& ~~~ digitAt i), a.v6⟩).v6]) (by simp [*, results, Tryz.results99, go_sem] <;> rfl) rfl ⟨rfl, ?_⟩
        go_grown
      · have hv : Hid (setv a i v = norm ⟨(norm a).hi, (((norm a).lo &&& ~~~ digitAt i) ||| digitAt i), a.v6⟩) := by unfold setv putDigit; rw [if_pos hin'.out, if_neg h64, ho]; rfl
        have ho' : (bits .and .i64 v 1 == 1) = true := ho
        rw [hv.out]
        clear ho
        have ha := u_andNot (norm a).lo (digitAt i)
        have hb := u_or ((norm a).lo &&& ~~~ digitAt i) (digitAt i)
        go_enter Tryz.func99, Tryz.ntmps99
        go_wp2_with fail
        refine (split_any a _).mono ?_
        rintro e w1 ⟨rfl, hw1⟩
        have zw1 := hw1.size
        have bw1 := below_of (w := w) (by go_grown) hw1
        try simp at zw1
        obtain ⟨pa, pb, pc, pd, pe, pf, pz⟩ := cells3 (b := w.heap.size) hw1 (by go_size) (by go_simp <;> rfl) (by go_simp <;> rfl) (by go_simp <;> rfl) (by go_simp <;> rfl) (by go_simp <;> rfl) (by go_simp <;> rfl)
        obtain ⟨qa, qb, qc, qd, qe, qf, qz⟩ := cells3 (b := w.heap.size + 1) hw1 (by go_size) (by go_simp <;> rfl) (by go_simp <;> rfl) (by go_simp <;> rfl) (by go_simp <;> rfl) (by go_simp <;> rfl) (by go_simp <;> rfl)
        clear hw1
        go_wp2_with fail
        refine (there_any a i _).mono ?_
        rintro e w2 ⟨rfl, hw2⟩
        have zw2 := hw2.size
        have bw2 := below_of (w := w) (by go_grown) hw2
        try simp at zw2
        rw [hin'.out]
        obtain ⟨pa, pb, pc, pd, pe, pf, pz⟩ := cells3 (b := w.heap.size) hw2 (by go_size) (by go_simp <;> rfl) (by go_simp <;> rfl) (by go_simp <;> rfl) (by go_simp <;> rfl) (by go_simp <;> rfl) (by go_simp <;> rfl)
        obtain ⟨qa, qb, qc, qd, qe, qf, qz⟩ := cells3 (b := w.heap.size + 1) hw2 (by go_size) (by go_simp <;> rfl) (by go_simp <;> rfl) (by go_simp <;> rfl) (by go_simp <;> rfl) (by go_simp <;> rfl) (by go_simp <;> rfl)
        obtain ⟨ra, rb, rc, rd, rz⟩ := cells2 (b := w1.heap.size) hw2 (by go_size) (by go_simp <;> rfl) (by go_simp <;> rfl) (by go_simp <;> rfl) (by go_simp <;> rfl)
        clear hw2
        go_wp2_with fail
        refine (place_any i h0 h1 _).mono ?_
        rintro e w5 ⟨rfl, rfl⟩
        go_wp2_with fail
        refine (whole_any ⟨(norm a).hi, (((norm a).lo &&& ~~~ digitAt i) ||| digitAt i), a.v6⟩ _).mono ?_
        rintro e w3 ⟨rfl, hw3⟩
        have zw3 := hw3.size
        have bw3 := below_of (w := w) (by go_grown) hw3
        try simp at zw3
        obtain ⟨sa, sb, sc, sd, se, sf, sz⟩ := cells3 (b := w.heap.size + 1) hw3 (by go_size) (by go_simp <;> rfl) (by go_simp <;> rfl) (by go_simp <;> rfl) (by go_simp <;> rfl) (by go_simp <;> rfl) (by go_simp <;> rfl)
        clear hw3
        go_wp2
        refine bodyPost_ret (v := .agg #[.int .u64 (u (norm ⟨(norm a).hi, (((norm a).lo &&& ~~~ digitAt i) ||| digitAt i), a.v6⟩).hi), .int .u64 (u (norm ⟨(norm a).hi, (((norm a).lo &&& ~~~ digitAt i) ||| digitAt i), a.v6⟩).lo), .bool (norm ⟨(norm a).hi, (((norm a).lo &&& ~~~ digitAt i) ||| digitAt i), a.v6⟩).v6]) (by simp [*, results, Tryz.results99, go_sem] <;> rfl) rfl ⟨rfl, ?_⟩
        go_grown

end Go.Proofs.YtcbfppangiopeaaGreat
