/-
  What getHop and GetRoute of package wire return. Condition: the bytes lie where the argument says.
-/
import Derived.Test.YtibhabglmkgaaaaVd
namespace Go.Proofs.Ytibhabglmkgaaaa
open Go.RowKit

theorem or256i (a b : Int) (a0 : 0 ≤ a) (a1 : a < 256) (b0 : 0 ≤ b) (b1 : b < 256) : bits .or .i64 (a * 256) b = a * 256 + b := by
  obtain ⟨x, rfl⟩ : ∃ x : Nat, a = x := ⟨a.toNat, by omega⟩
  obtain ⟨y, rfl⟩ : ∃ y : Nat, b = y := ⟨b.toNat, by omega⟩
  have e1 : (x : Int) * 256 = ((x * 256 : Nat) : Int) := by omega
  have h := Nat.shiftLeft_add_eq_or_of_lt (show y < 2 ^ 8 by omega) x
  rw [Nat.shiftLeft_eq, show (2 : Nat) ^ 8 = 256 from rfl] at h
  rw [e1]
  show IntKind.i64.wrap ((BitVec.ofInt 64 ((x * 256 : Nat) : Int) ||| BitVec.ofInt 64 (y : Int)).toNat : Int) = _
  rw [BitVec.ofInt_natCast, BitVec.ofInt_natCast, BitVec.toNat_or, BitVec.toNat_ofNat, BitVec.toNat_ofNat, Nat.mod_eq_of_lt (by omega), Nat.mod_eq_of_lt (by omega), ← h, IntKind.wrap_i64]
  omega

set_option maxHeartbeats 1000000 in
theorem getHop_short (p : Pf) (A : Option Addr) (c : Nat) (l : List Int) (w : World) (hl : l.length < 2) :
    Calls Try.prog 33 #[.agg #[.int .u64 (u p.a.hi), .int .u64 (u p.a.lo), .bool p.a.v6, .int .i64 p.n], .slice A l.length c] w fun e w' => e = .returned (.tuple #[.agg #[.int .u64 0, .int .u64 0, .bool false, .int .i64 0, .int .i64 0], .int .i64 0, .int .i64 6]) ∧ Below w.heap.size w w' := by
  have t1 : decide ((l.length : Int) < 2) = true := by simp; omega
  go_enter Try.func33, Try.ntmps33
  go_wp2
  refine bodyPost_ret (v := .tuple #[.agg #[.int .u64 0, .int .u64 0, .bool false, .int .i64 0, .int .i64 0], .int .i64 0, .int .i64 6]) (by simp [*, results, Try.results33, go_sem] <;> rfl) rfl ⟨rfl, ?_⟩
  go_grown
set_option maxHeartbeats 1000000 in
theorem getHop_long (p : Pf) (A : Option Addr) (c : Nat) (l : List Int) (w : World) (h : Rd w A c l) (hl : 2 ≤ l.length) :
    Calls Try.prog 33 #[.agg #[.int .u64 (u p.a.hi), .int .u64 (u p.a.lo), .bool p.a.v6, .int .i64 p.n], .slice A l.length c] w fun e w' => e = .returned (.tuple #[.agg #[.int .u64 (u (Rt.mk p (at0 l 0 * 256 + at0 l 1)).p.a.hi), .int .u64 (u (Rt.mk p (at0 l 0 * 256 + at0 l 1)).p.a.lo), .bool (Rt.mk p (at0 l 0 * 256 + at0 l 1)).p.a.v6, .int .i64 (Rt.mk p (at0 l 0 * 256 + at0 l 1)).p.n, .int .i64 (Rt.mk p (at0 l 0 * 256 + at0 l 1)).hop], .int .i64 2, .int .i64 0]) ∧ Below w.heap.size w w' := by
  have t1 : decide ((l.length : Int) < 2) = false := by simp; omega
  obtain ⟨g, off, rfl, hg, hc⟩ := h.at_ (by omega)
  obtain ⟨b0, b1⟩ := at0_bd h.2.2.1 0
  obtain ⟨d0, d1⟩ := at0_bd h.2.2.1 1
  have hc0 := hc 0 (by omega)
  have hc1 := hc 1 (by omega)
  rw [Nat.add_zero] at hc0
  have i0 : 0 < l.length := by omega
  have i1 : (1 : Int) < (l.length : Int) := by omega
  have hor := or256i _ _ b0 b1 d0 d1
  clear h hc hl
  go_enter Try.func33, Try.ntmps33
  go_wp2_with fail
  generalize hW : World.alloc _ _ = W
  have hz : w.heap.size ≤ W.heap.size := by subst hW; go_size
  have hB : Below w.heap.size w W := by subst hW; go_grown
  obtain ⟨pa, pb, pc, pg, pd, pe, pf, ph, pz⟩ := cells4 (W := W) (b := w.heap.size) (Below.refl _ W) (by subst hW; go_size) (by subst hW; go_simp <;> rfl) (by subst hW; go_simp <;> rfl) (by subst hW; go_simp <;> rfl) (by subst hW; go_simp <;> rfl) (by subst hW; go_simp <;> rfl) (by subst hW; go_simp <;> rfl) (by subst hW; go_simp <;> rfl) (by subst hW; go_simp <;> rfl)
  obtain ⟨qa, qb, qc, qg, qi, qd, qe, qf, qh, qj, qz⟩ := cells5 (W := W) (b := w.heap.size + 1) (Below.refl _ W) (by subst hW; go_size) (by subst hW; go_simp <;> rfl) (by subst hW; go_simp <;> rfl) (by subst hW; go_simp <;> rfl) (by subst hW; go_simp <;> rfl) (by subst hW; go_simp <;> rfl) (by subst hW; go_simp <;> rfl) (by subst hW; go_simp <;> rfl) (by subst hW; go_simp <;> rfl) (by subst hW; go_simp <;> rfl) (by subst hW; go_simp <;> rfl)
  have hgW : g < W.heap.size := Nat.lt_of_lt_of_le hg hz
  have kc0 := (hB.cell (p := ⟨g, off, none⟩) hg).trans hc0
  have kc1 := (hB.cell (p := ⟨g, off + 1, none⟩) hg).trans hc1
  clear hW
  have Lpa := fun x : Later W.heap.size W => (x.cell pz).trans pa
  have Lpb := fun x : Later W.heap.size W => (x.cell pz).trans pb
  have Lpc := fun x : Later W.heap.size W => (x.cell pz).trans pc
  have Lpg := fun x : Later W.heap.size W => (x.cell pz).trans pg
  have L0 := fun x : Later W.heap.size W => (x.cell (p := ⟨g, off, none⟩) hgW).trans kc0
  have L1 := fun x : Later W.heap.size W => (x.cell (p := ⟨g, off + 1, none⟩) hgW).trans kc1
  refine region_tail 12 W.heap.size (by kernel_rfl) (by kernel_rfl) ?_
  simp only [List.take_succ_cons, List.take_zero, List.drop_succ_cons, List.drop_zero]
  repeat (go_big_quiet_step (fail))
  refine wpQuiet_nil ?_
  intro x
  have hx : Below w.heap.size w x.at := hB.trans (x.below.mono hz)
  clear L0 L1 kc0 kc1 hgW Lpa Lpb Lpc Lpg
  obtain ⟨p'a, p'b, p'c, p'g, p'd, p'e, p'f, p'h, p'z⟩ := cells4 x.below pz pa pb pc pg pd pe pf ph
  clear pa pb pc pd pe pf pg ph pz
  obtain ⟨q'a, q'b, q'c, q'g, q'i, q'd, q'e, q'f, q'h, q'j, q'z⟩ := cells5 x.below qz qa qb qc qg qi qd qe qf qh qj
  clear qa qb qc qd qe qf qg qh qi qj qz
  generalize x.at = w1 at *
  clear x hB hz W
  go_wp2
  refine bodyPost_ret (v := .tuple #[.agg #[.int .u64 (u (Rt.mk p (at0 l 0 * 256 + at0 l 1)).p.a.hi), .int .u64 (u (Rt.mk p (at0 l 0 * 256 + at0 l 1)).p.a.lo), .bool (Rt.mk p (at0 l 0 * 256 + at0 l 1)).p.a.v6, .int .i64 (Rt.mk p (at0 l 0 * 256 + at0 l 1)).p.n, .int .i64 (Rt.mk p (at0 l 0 * 256 + at0 l 1)).hop], .int .i64 2, .int .i64 0]) (by simp [*, results, Try.results33, go_sem] <;> rfl) rfl ⟨rfl, ?_⟩
  go_grown

set_option maxHeartbeats 1000000 in
theorem then2_bad (A : Option Addr) (c : Nat) (l : List Int) (w : World) (h : Rd w A c l) (he : getE l ≠ 0) :
    Calls Try.prog 32 #[.slice A l.length c, .func (.func 10) #[] #[], .func (.func 33) #[] #[]] w fun e w' => e = .returned (.tuple #[.agg #[.int .u64 0, .int .u64 0, .bool false, .int .i64 0, .int .i64 0], .int .i64 0, .int .i64 (getE l)]) ∧ Below w.heap.size w w' := by
  have t1 : (getE l != 0) = true := by simp [he]
  have HR := Lib.hid h
  have HE := Lib.hid he
  clear h he
  go_enter Try.func32, Try.ntmps32
  go_wp2_with fail
  refine (get_any A c l _ (HR.out.keep (by go_grown))).mono ?_
  rintro e w1 ⟨rfl, hw1⟩
  have bw1 := below_of (w := w) (by go_grown) hw1
  obtain ⟨pa, pb, pc, pg, pi, pd, pe, pf, ph, pj, pz⟩ := cells5 (b := w.heap.size) hw1 (by go_size) (by go_simp <;> rfl) (by go_simp <;> rfl) (by go_simp <;> rfl) (by go_simp <;> rfl) (by go_simp <;> rfl) (by go_simp <;> rfl) (by go_simp <;> rfl) (by go_simp <;> rfl) (by go_simp <;> rfl) (by go_simp <;> rfl)
  obtain ⟨qa, qb, qc, qg, qi, qd, qe, qf, qh, qj, qz⟩ := cells5 (b := w.heap.size + 1) hw1 (by go_size) (by go_simp <;> rfl) (by go_simp <;> rfl) (by go_simp <;> rfl) (by go_simp <;> rfl) (by go_simp <;> rfl) (by go_simp <;> rfl) (by go_simp <;> rfl) (by go_simp <;> rfl) (by go_simp <;> rfl) (by go_simp <;> rfl)
  clear hw1
  go_wp2
  refine bodyPost_ret (v := .tuple #[.agg #[.int .u64 0, .int .u64 0, .bool false, .int .i64 0, .int .i64 0], .int .i64 0, .int .i64 (getE l)]) (by simp [*, results, Try.results32, go_sem] <;> rfl) rfl ⟨rfl, ?_⟩
  go_grown

theorem keep4 {W w' : World} {b : Nat} {c0 c1 c2 c3 : Value} (h : Below W.heap.size W w') (hlt : b < W.heap.size) (h0 : W.cell? ⟨b, 0, none⟩ = some c0) (h1 : W.cell? ⟨b, 1, none⟩ = some c1) (h2 : W.cell? ⟨b, 2, none⟩ = some c2) (h3 : W.cell? ⟨b, 3, none⟩ = some c3) :
    w'.cell? ⟨b, 0, none⟩ = some c0 ∧ w'.cell? ⟨b, 1, none⟩ = some c1 ∧ w'.cell? ⟨b, 2, none⟩ = some c2 ∧ w'.cell? ⟨b, 3, none⟩ = some c3 ∧ Below W.heap.size W w' := ⟨(h.cell hlt).trans h0, (h.cell hlt).trans h1, (h.cell hlt).trans h2, (h.cell hlt).trans h3, h⟩
/-- A route lies in a block. -/
def RBox (wr : World) (b : Nat) (x : Rt) : Prop :=
  wr.cell? ⟨b, 0, none⟩ = some (.int .u64 (u x.p.a.hi)) ∧ wr.cell? ⟨b, 1, none⟩ = some (.int .u64 (u x.p.a.lo)) ∧ wr.cell? ⟨b, 2, none⟩ = some (.bool x.p.a.v6) ∧ wr.cell? ⟨b, 3, none⟩ = some (.int .i64 x.p.n) ∧ wr.cell? ⟨b, 4, none⟩ = some (.int .i64 x.hop) ∧
    wr.frozen? ⟨b, 0, none⟩ = false ∧ wr.frozen? ⟨b, 1, none⟩ = false ∧ wr.frozen? ⟨b, 2, none⟩ = false ∧ wr.frozen? ⟨b, 3, none⟩ = false ∧ wr.frozen? ⟨b, 4, none⟩ = false ∧ b < wr.heap.size
set_option maxHeartbeats 2000000 in
theorem then2_gen (A : Option Addr) (c : Nat) (l : List Int) (w : World) (h : Rd w A c l) (he : getE l = 0) (hN : getN l ≤ l.length) (hN18 : getN l ≤ 18) (p : Rt) (n E : Int) (hn0 : 0 ≤ n) (hn1 : n ≤ 16)
    (hD : ∀ W, Below w.heap.size w W → Calls Try.prog 33 #[.agg #[.int .u64 (u (getP l).a.hi), .int .u64 (u (getP l).a.lo), .bool (getP l).a.v6, .int .i64 (getP l).n], .slice (cutA A c (getN l)) (l.length - getN l) (c - getN l)] W fun e w' => e = .returned (.tuple #[.agg #[.int .u64 (u p.p.a.hi), .int .u64 (u p.p.a.lo), .bool p.p.a.v6, .int .i64 p.p.n, .int .i64 p.hop], .int .i64 n, .int .i64 E]) ∧ Below W.heap.size W w') :
    Calls Try.prog 32 #[.slice A l.length c, .func (.func 10) #[] #[], .func (.func 33) #[] #[]] w fun e w' => e = .returned (if E = 0 then .tuple #[.agg #[.int .u64 (u p.p.a.hi), .int .u64 (u p.p.a.lo), .bool p.p.a.v6, .int .i64 p.p.n, .int .i64 p.hop], .int .i64 (getN l + n), .int .i64 0] else .tuple #[.agg #[.int .u64 0, .int .u64 0, .bool false, .int .i64 0, .int .i64 0], .int .i64 0, .int .i64 E]) ∧ Below w.heap.size w w' := by
  have hsl := fun W : World => slice_from A l.length c (getN l) hN W
  have t1 : (getE l != 0) = false := by simp [he]
  have HR := Lib.hid h
  have HE := Lib.hid he
  have HD := Lib.hid hD
  clear h he hD
  go_enter Try.func32, Try.ntmps32
  go_wp2_with fail
  refine (get_any A c l _ (HR.out.keep (by go_grown))).mono ?_
  rintro e w1 ⟨rfl, hw1⟩
  have bw1 := below_of (w := w) (by go_grown) hw1
  obtain ⟨pa, pb, pc, pg, pi, pd, pe, pf, ph, pj, pz⟩ := cells5 (b := w.heap.size) hw1 (by go_size) (by go_simp <;> rfl) (by go_simp <;> rfl) (by go_simp <;> rfl) (by go_simp <;> rfl) (by go_simp <;> rfl) (by go_simp <;> rfl) (by go_simp <;> rfl) (by go_simp <;> rfl) (by go_simp <;> rfl) (by go_simp <;> rfl)
  obtain ⟨qa, qb, qc, qg, qi, qd, qe, qf, qh, qj, qz⟩ := cells5 (b := w.heap.size + 1) hw1 (by go_size) (by go_simp <;> rfl) (by go_simp <;> rfl) (by go_simp <;> rfl) (by go_simp <;> rfl) (by go_simp <;> rfl) (by go_simp <;> rfl) (by go_simp <;> rfl) (by go_simp <;> rfl) (by go_simp <;> rfl) (by go_simp <;> rfl)
  clear hw1
  go_upto_region 5 with fail
  generalize hW : World.alloc _ _ = W
  have hz : w.heap.size ≤ W.heap.size := by subst hW; go_size
  have hB : Below w.heap.size w W := by subst hW; go_grown
  obtain ⟨p'a, p'b, p'c, p'g, p'i, p'd, p'e, p'f, p'h, p'j, p'z⟩ := cells5 (W := W) (b := w.heap.size) (Below.refl _ W) (by subst hW; go_size) (by subst hW; go_simp <;> rfl) (by subst hW; go_simp <;> rfl) (by subst hW; go_simp <;> rfl) (by subst hW; go_simp <;> rfl) (by subst hW; go_simp <;> rfl) (by subst hW; go_simp <;> rfl) (by subst hW; go_simp <;> rfl) (by subst hW; go_simp <;> rfl) (by subst hW; go_simp <;> rfl) (by subst hW; go_simp <;> rfl)
  obtain ⟨q'a, q'b, q'c, q'g, q'i, q'd, q'e, q'f, q'h, q'j, q'z⟩ := cells5 (W := W) (b := w.heap.size + 1) (Below.refl _ W) (by subst hW; go_size) (by subst hW; go_simp <;> rfl) (by subst hW; go_simp <;> rfl) (by subst hW; go_simp <;> rfl) (by subst hW; go_simp <;> rfl) (by subst hW; go_simp <;> rfl) (by subst hW; go_simp <;> rfl) (by subst hW; go_simp <;> rfl) (by subst hW; go_simp <;> rfl) (by subst hW; go_simp <;> rfl) (by subst hW; go_simp <;> rfl)
  obtain ⟨ra, rb, rc, rg, rd, re, rf, rh, rz⟩ := cells4 (W := W) (b := w1.heap.size) (Below.refl _ W) (by subst hW; go_size) (by subst hW; go_simp <;> rfl) (by subst hW; go_simp <;> rfl) (by subst hW; go_simp <;> rfl) (by subst hW; go_simp <;> rfl) (by subst hW; go_simp <;> rfl) (by subst hW; go_simp <;> rfl) (by subst hW; go_simp <;> rfl) (by subst hW; go_simp <;> rfl)
  clear hW pa pb pc pd pe pf pg ph pi pj pz qa qb qc qd qe qf qg qh qi qj qz
  go_cut [12, 13, 14] (fun a b d wx => a = .int .i64 E ∧ d = .int .i64 n ∧ ∃ y, b = .pointer (some ⟨y, 0, none⟩) ∧ RBox wx y p ∧ Below W.heap.size W wx)
  case first =>
    go_region_held3 (fun w' => w'.cell? ⟨w1.heap.size, 0, none⟩ = some (.int .u64 (u (getP l).a.hi)) ∧ w'.cell? ⟨w1.heap.size, 1, none⟩ = some (.int .u64 (u (getP l).a.lo)) ∧ w'.cell? ⟨w1.heap.size, 2, none⟩ = some (.bool (getP l).a.v6) ∧ w'.cell? ⟨w1.heap.size, 3, none⟩ = some (.int .i64 (getP l).n) ∧ Below W.heap.size W w')
      (first | exact keep4 hk5 rz ra rb rc rg | (refine keep4 ?_ rz ra rb rc rg; go_grown)) ((go_at_call 33; refine (HD.out _ (by go_grown)).mono ?_; rintro e w5 ⟨rfl, hw5⟩; have hk5 := below_of (w := W) (by go_grown) hw5; have zk5 := hk5.size; (try (refine y5_then (b := W.heap.size) (c0 := .int .u64 0) (c1 := .int .u64 0) (c2 := .bool false) (c3 := .int .i64 0) (c4 := .int .i64 0) hw5 ?_ ?_ ?_ ?_ ?_ ?_ ?_ ?_ ?_ ?_ ?_ (fun y4 => ?_); go_size; go_simp; go_simp; go_simp; go_simp; go_simp; go_simp; go_simp; go_simp; go_simp; go_simp; obtain ⟨ya, yb, yc, yg, yi, yd, ye, yf, yh, yj, yz⟩ := y4))))
    all_goals (go_wp2_with fail; go_meet)
    all_goals
      refine ⟨rfl, rfl, _, rfl, ⟨?_, ?_, ?_, ?_, ?_, ?_, ?_, ?_, ?_, ?_, ?_⟩, ?_⟩
      all_goals first | (go_simp; done) | (go_simp <;> rfl) | go_size | go_grown
  case rest =>
    obtain ⟨rfl, rfl, y, rfl, ⟨ya, yb, yc, yg, yi, yd, ye, yf, yh, yj, yz⟩, hbc⟩ := hcut
    obtain ⟨pa, pb, pc, pg, pi, pd, pe, pf, ph, pj, pz⟩ := cells5 hbc p'z p'a p'b p'c p'g p'i p'd p'e p'f p'h p'j
    obtain ⟨qa, qb, qc, qg, qi, qd, qe, qf, qh, qj, qz⟩ := cells5 hbc q'z q'a q'b q'c q'g q'i q'd q'e q'f q'h q'j
    have bwc := hB.trans (hbc.mono hz)
    clear p'a p'b p'c p'd p'e p'f p'g p'h p'i p'j p'z q'a q'b q'c q'd q'e q'f q'g q'h q'i q'j q'z ra rb rc rd re rf rg rh rz hbc hB hz hsl HD bw1
    by_cases hE : E = 0
    · have t2 : (E != 0) = false := by simp [hE]
      have HE2 := Lib.hid hE
      clear hE
      go_wp2
      refine bodyPost_ret (v := .tuple #[.agg #[.int .u64 (u p.p.a.hi), .int .u64 (u p.p.a.lo), .bool p.p.a.v6, .int .i64 p.p.n, .int .i64 p.hop], .int .i64 (getN l + n), .int .i64 0]) (by simp [*, results, Try.results32, go_sem] <;> rfl) rfl ⟨by first | rfl | rw [if_pos HE2.out], ?_⟩
      go_grown
    · have t2 : (E != 0) = true := by simp [hE]
      have HE2 := Lib.hid hE
      clear hE
      go_wp2
      refine bodyPost_ret (v := .tuple #[.agg #[.int .u64 0, .int .u64 0, .bool false, .int .i64 0, .int .i64 0], .int .i64 0, .int .i64 E]) (by simp [*, results, Try.results32, go_sem] <;> rfl) rfl ⟨by first | rfl | rw [if_neg HE2.out], ?_⟩
      go_grown

/-- What is got has no more bytes than there are. -/
theorem getN_le {l : List Int} (hb : ∀ x ∈ l, 0 ≤ x ∧ x < 256) (he : getE l = 0) : getN l ≤ l.length ∧ getN l ≤ 18 ∧ 2 ≤ getN l := by
  have hh : headE l = 0 := by
    by_cases hh : headE l = 0
    · exact hh
    · unfold getE at he
      rw [if_neg hh] at he
      exact absurd he hh
  have hl := head_len hh
  obtain ⟨b0, b1⟩ := at0_bd hb 1
  have hn := need_le _ _ b0 (head_wid hh)
  have hnb := nb_le (at0 l 0 == 6)
  have hd : digE (at0 l 0 == 6) (at0 l 1) (l.drop 2) = 0 := by
    unfold getE at he
    rw [if_pos hh] at he
    exact he
  unfold getN
  rw [if_pos he]
  unfold digE at hd
  split at hd
  · cases hd
  · rename_i h1
    rw [List.length_drop] at h1
    omega
theorem then2_any (A : Option Addr) (c : Nat) (l : List Int) (w : World) (h : Rd w A c l) :
    Calls Try.prog 32 #[.slice A l.length c, .func (.func 10) #[] #[], .func (.func 33) #[] #[]] w fun e w' => e = .returned (.tuple #[.agg #[.int .u64 (u (grR l).p.a.hi), .int .u64 (u (grR l).p.a.lo), .bool (grR l).p.a.v6, .int .i64 (grR l).p.n, .int .i64 (grR l).hop], .int .i64 (grN l), .int .i64 (grE l)]) ∧ Below w.heap.size w w' := by
  by_cases he : getE l = 0
  · obtain ⟨n1, n2, _⟩ := getN_le h.2.2.1 he
    have ee : grE l = hopE (l.drop (getN l)) := by unfold grE; rw [if_pos he]
    rcases Nat.lt_or_ge (l.drop (getN l)).length 2 with h2 | h2
    · have e6 : hopE (l.drop (getN l)) = 6 := by unfold hopE; rw [if_pos h2]
      refine (then2_gen A c l w h he n1 n2 nilR 0 6 (by omega) (by omega) fun W hW => ?_).mono fun e w' hh => ⟨hh.1.trans ?_, hh.2⟩
      · have := getHop_short (getP l) (cutA A c (getN l)) (c - getN l) (l.drop (getN l)) W h2
        rw [List.length_drop] at this
        exact this
      · unfold grR grN
        rw [ee, e6]
        rfl
    · have e6 : hopE (l.drop (getN l)) = 0 := by unfold hopE; rw [if_neg (by omega)]
      refine (then2_gen A c l w h he n1 n2 ⟨getP l, at0 (l.drop (getN l)) 0 * 256 + at0 (l.drop (getN l)) 1⟩ 2 0 (by omega) (by omega) fun W hW => ?_).mono fun e w' hh => ⟨hh.1.trans ?_, hh.2⟩
      · have := getHop_long (getP l) (cutA A c (getN l)) (c - getN l) (l.drop (getN l)) W ((h.keep hW).cut _ n1) h2
        rw [List.length_drop] at this
        exact this
      · unfold grR grN
        rw [ee, e6, at0_drop, at0_drop]
        rfl
  · have ee : grE l = getE l := by unfold grE; rw [if_neg he]
    refine (then2_bad A c l w h he).mono fun e w' hh => ⟨hh.1.trans ?_, hh.2⟩
    unfold grR grN
    rw [ee, if_neg he, if_neg he]
    rfl
theorem getRoute_any (A : Option Addr) (c : Nat) (l : List Int) (w : World) (h : Rd w A c l) :
    Calls Try.prog 12 #[.slice A l.length c] w fun e w' => e = .returned (.tuple #[.agg #[.int .u64 (u (grR l).p.a.hi), .int .u64 (u (grR l).p.a.lo), .bool (grR l).p.a.v6, .int .i64 (grR l).p.n, .int .i64 (grR l).hop], .int .i64 (grN l), .int .i64 (grE l)]) ∧ Below w.heap.size w w' := by
  have HR := Lib.hid h
  clear h
  go_enter Try.func12, Try.ntmps12
  go_wp2_with fail
  refine (then2_any A c l _ (HR.out.keep (by go_grown))).mono ?_
  rintro e w1 ⟨rfl, hw1⟩
  have bw1 := below_of (w := w) (by go_grown) hw1
  obtain ⟨pa, pb, pc, pg, pi, pd, pe, pf, ph, pj, pz⟩ := cells5 (b := w.heap.size) hw1 (by go_size) (by go_simp <;> rfl) (by go_simp <;> rfl) (by go_simp <;> rfl) (by go_simp <;> rfl) (by go_simp <;> rfl) (by go_simp <;> rfl) (by go_simp <;> rfl) (by go_simp <;> rfl) (by go_simp <;> rfl) (by go_simp <;> rfl)
  clear hw1
  go_wp2
  refine bodyPost_ret (v := .tuple #[.agg #[.int .u64 (u (grR l).p.a.hi), .int .u64 (u (grR l).p.a.lo), .bool (grR l).p.a.v6, .int .i64 (grR l).p.n, .int .i64 (grR l).hop], .int .i64 (grN l), .int .i64 (grE l)]) (by simp [*, results, Try.results12, go_sem] <;> rfl) rfl ⟨rfl, ?_⟩
  go_grown

end Go.Proofs.Ytibhabglmkgaaaa
