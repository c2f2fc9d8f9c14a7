/-
  Plain functions: what package prefix computes; what '==' gives of two prefixes; the cells of a block that holds one. No condition.
-/
import Derived.Test.YtfebhfghjdedhaaDoorLawO
namespace Go.Proofs.YtfebhfghjdedhaaDoor
open Go.RowKit

/-- A prefix as the program holds it. -/
structure Pf where
  a : Ad
  n : Int
deriving DecidableEq

/-- Two prefixes' parts are alike. -/
def pfB (h l : Int) (v : Bool) (n : Int) (h' l' : Int) (v' : Bool) (n' : Int) : Bool := adB h l v h' l' v' && n == n'
@[simp] theorem pfB_self (h l : Int) (v : Bool) (n : Int) : pfB h l v n h l v n = true := by simp [pfB]
@[simp] theorem eq_pf (h l h' l' : Int) (v v' : Bool) (n n' : Int) (w : World) :
    (Op.equalIn 10000 26 (.agg #[.int .u64 h, .int .u64 l, .bool v, .int .i64 n]) (.agg #[.int .u64 h', .int .u64 l', .bool v', .int .i64 n'])).run Tryd.prog w = .ok (pfB h l v n h' l' v' n') w := by
  rw [show (10000 : Nat) = 9999 + 1 from rfl, run_equalIn_struct w 9999 _ _ _ (by kernel_rfl) Tryd.stoodInHeld26]
  simp [go_sem, pfB, adB]
  by_cases h1 : h = h' <;> by_cases h2 : l = l' <;> by_cases h3 : v = v' <;> by_cases h4 : n = n' <;> simp [h1, h2, h3, h4]

theorem cells4 {W w1 : World} {b : Nat} {c0 c1 c2 c3 : Value} (hb : Below W.heap.size W w1) (hlt : b < W.heap.size) (h0 : W.cell? ⟨b, 0, none⟩ = some c0) (h1 : W.cell? ⟨b, 1, none⟩ = some c1) (h2 : W.cell? ⟨b, 2, none⟩ = some c2) (h3 : W.cell? ⟨b, 3, none⟩ = some c3)
    (f0 : W.frozen? ⟨b, 0, none⟩ = false) (f1 : W.frozen? ⟨b, 1, none⟩ = false) (f2 : W.frozen? ⟨b, 2, none⟩ = false) (f3 : W.frozen? ⟨b, 3, none⟩ = false) :
    w1.cell? ⟨b, 0, none⟩ = some c0 ∧ w1.cell? ⟨b, 1, none⟩ = some c1 ∧ w1.cell? ⟨b, 2, none⟩ = some c2 ∧ w1.cell? ⟨b, 3, none⟩ = some c3 ∧
      w1.frozen? ⟨b, 0, none⟩ = false ∧ w1.frozen? ⟨b, 1, none⟩ = false ∧ w1.frozen? ⟨b, 2, none⟩ = false ∧ w1.frozen? ⟨b, 3, none⟩ = false ∧ b < w1.heap.size :=
  ⟨(hb.cell hlt).trans h0, (hb.cell hlt).trans h1, (hb.cell hlt).trans h2, (hb.cell hlt).trans h3, (hb.frozen hlt).trans f0, (hb.frozen hlt).trans f1, (hb.frozen hlt).trans f2, (hb.frozen hlt).trans f3, Nat.lt_of_lt_of_le hlt hb.size⟩

def pof (a : Ad) (n : Int) : Pf := ⟨maskv a (clamp a.v6 n), clamp a.v6 n⟩

theorem pof_of (a : Ad) (n m : Int) (h : clamp a.v6 n = m) : pof a n = ⟨maskv a m, m⟩ := by unfold pof; rw [h]
def pfEq (p q : Pf) : Bool := pfB (u p.a.hi) (u p.a.lo) p.a.v6 p.n (u q.a.hi) (u q.a.lo) q.a.v6 q.n
theorem pfEq_iff (p q : Pf) : pfEq p q = true ↔ p = q := by
  obtain ⟨a, n⟩ := p
  obtain ⟨b, m⟩ := q
  have h := adEq_iff a b
  unfold pfEq pfB
  rw [Bool.and_eq_true, beq_iff_eq]
  unfold adEq at h
  rw [h]
  simp
def psane (p : Pf) : Bool := pfEq (pof p.a p.n) p
def pcon (p : Pf) (a : Ad) : Bool := pfEq (pof a p.n) p
def pcov (p q : Pf) : Bool := psane q && decide (p.n ≤ q.n) && pcon p q.a
def pins (p q : Pf) : Bool := pcov p q && decide (p.n < q.n)
def papa (p q : Pf) : Bool := psane p && psane q && !pcov p q && !pcov q p
def nilP : Pf := ⟨⟨0#64, 0#64, false⟩, 0⟩
def pchild (p : Pf) (v : Int) : Pf × Bool := if psane p = true then (if p.n = wid p.a.v6 then (nilP, false) else (⟨setv p.a p.n v, p.n + 1⟩, true)) else (nilP, false)
def pparent (p : Pf) : Pf × Bool := if psane p = true then (if p.n = 0 then (nilP, false) else (pof p.a (p.n - 1), true)) else (nilP, false)
def psib (p : Pf) : Pf × Bool := if (pparent p).2 = true then pchild (pparent p).1 (1 - bitv p.a (pparent p).1.n) else (nilP, false)
def pjoin (p q : Pf) : Pf × Bool := if psane p = true ∧ psane q = true ∧ p.a.v6 = q.a.v6 then (pof p.a (min (min p.n q.n) (commonv p.a q.a)), true) else (nilP, false)
def cmpI (x y : Int) : Int := if x < y then -1 else if y < x then 1 else 0
def pcmp (p q : Pf) : Int := if cmpv p.a q.a = 0 then cmpI p.n q.n else cmpv p.a q.a

set_option maxHeartbeats 400000 in
theorem pof_any (a : Ad) (n : Int) (w : World) :
    Calls Tryd.prog 43 #[.agg #[.int .u64 (u a.hi), .int .u64 (u a.lo), .bool a.v6], .int .i64 n] w fun e w' => e = .returned (.agg #[.int .u64 (u (pof a n).a.hi), .int .u64 (u (pof a n).a.lo), .bool (pof a n).a.v6, .int .i64 (pof a n).n]) ∧ Below w.heap.size w w' := by
  have hw := wid_bd a.v6
  by_cases h0 : n < 0
  · rw [pof_of a n 0 (by unfold clamp; omega)]
    go_enter Tryd.func43, Tryd.ntmps43
    go_wp2_with fail
    refine (width_any a.v6 _).mono ?_
    rintro e w1 ⟨rfl, rfl⟩
    go_wp2_with fail
    refine (mask_any a 0 _).mono ?_
    rintro e w2 ⟨rfl, hw2⟩
    have zw2 := hw2.size
    have bw2 := below_of (w := w) (by go_grown) hw2
    try simp at zw2
    obtain ⟨qa, qb, qc, qg, qd, qe, qf, qh, qz⟩ := cells4 (b := w.heap.size + 1) hw2 (by go_size) (by go_simp <;> rfl) (by go_simp <;> rfl) (by go_simp <;> rfl) (by go_simp <;> rfl) (by go_simp <;> rfl) (by go_simp <;> rfl) (by go_simp <;> rfl) (by go_simp <;> rfl)
    clear hw2
    go_wp2
    refine bodyPost_ret (v := .agg #[.int .u64 (u (Pf.mk (maskv a 0) 0).a.hi), .int .u64 (u (Pf.mk (maskv a 0) 0).a.lo), .bool (Pf.mk (maskv a 0) 0).a.v6, .int .i64 (Pf.mk (maskv a 0) 0).n]) (by simp [*, results, Tryd.results43, go_sem] <;> rfl) rfl ⟨rfl, ?_⟩
    go_grown
  · by_cases h1 : n ≤ wid a.v6
    · rw [pof_of a n n (by unfold clamp; omega)]
      go_enter Tryd.func43, Tryd.ntmps43
      go_wp2_with fail
      refine (width_any a.v6 _).mono ?_
      rintro e w1 ⟨rfl, rfl⟩
      go_wp2_with fail
      refine (mask_any a n _).mono ?_
      rintro e w2 ⟨rfl, hw2⟩
      have zw2 := hw2.size
      have bw2 := below_of (w := w) (by go_grown) hw2
      try simp at zw2
      obtain ⟨qa, qb, qc, qg, qd, qe, qf, qh, qz⟩ := cells4 (b := w.heap.size + 1) hw2 (by go_size) (by go_simp <;> rfl) (by go_simp <;> rfl) (by go_simp <;> rfl) (by go_simp <;> rfl) (by go_simp <;> rfl) (by go_simp <;> rfl) (by go_simp <;> rfl) (by go_simp <;> rfl)
      clear hw2
      go_wp2
      refine bodyPost_ret (v := .agg #[.int .u64 (u (Pf.mk (maskv a n) n).a.hi), .int .u64 (u (Pf.mk (maskv a n) n).a.lo), .bool (Pf.mk (maskv a n) n).a.v6, .int .i64 (Pf.mk (maskv a n) n).n]) (by simp [*, results, Tryd.results43, go_sem] <;> rfl) rfl ⟨rfl, ?_⟩
      go_grown
    · rw [pof_of a n (wid a.v6) (by unfold clamp; omega)]
      go_enter Tryd.func43, Tryd.ntmps43
      go_wp2_with fail
      refine (width_any a.v6 _).mono ?_
      rintro e w1 ⟨rfl, rfl⟩
      go_wp2_with fail
      refine (mask_any a (wid a.v6) _).mono ?_
      rintro e w2 ⟨rfl, hw2⟩
      have zw2 := hw2.size
      have bw2 := below_of (w := w) (by go_grown) hw2
      try simp at zw2
      obtain ⟨qa, qb, qc, qg, qd, qe, qf, qh, qz⟩ := cells4 (b := w.heap.size + 1) hw2 (by go_size) (by go_simp <;> rfl) (by go_simp <;> rfl) (by go_simp <;> rfl) (by go_simp <;> rfl) (by go_simp <;> rfl) (by go_simp <;> rfl) (by go_simp <;> rfl) (by go_simp <;> rfl)
      clear hw2
      go_wp2
      refine bodyPost_ret (v := .agg #[.int .u64 (u (Pf.mk (maskv a (wid a.v6)) (wid a.v6)).a.hi), .int .u64 (u (Pf.mk (maskv a (wid a.v6)) (wid a.v6)).a.lo), .bool (Pf.mk (maskv a (wid a.v6)) (wid a.v6)).a.v6, .int .i64 (Pf.mk (maskv a (wid a.v6)) (wid a.v6)).n]) (by simp [*, results, Tryd.results43, go_sem] <;> rfl) rfl ⟨rfl, ?_⟩
      go_grown

end Go.Proofs.YtfebhfghjdedhaaDoor
