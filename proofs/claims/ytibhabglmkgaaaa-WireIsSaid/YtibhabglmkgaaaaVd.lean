/-
  What then, Get, getHop and GetRoute of package wire return. Condition: the bytes lie where the argument says.
-/
import Derived.Test.YtibhabglmkgaaaaVc
import Derived.Test.YtibhabglmkgaaaaPbx
import Derived.Deep.DeepCutAuto
namespace Go.Proofs.Ytibhabglmkgaaaa
open Go.RowKit

theorem y4_then {G : Prop} {W w1 : World} {b : Nat} {c0 c1 c2 c3 : Value} (hb : Below W.heap.size W w1) (hlt : b < W.heap.size) (h0 : W.cell? ⟨b, 0, none⟩ = some c0) (h1 : W.cell? ⟨b, 1, none⟩ = some c1) (h2 : W.cell? ⟨b, 2, none⟩ = some c2) (h3 : W.cell? ⟨b, 3, none⟩ = some c3)
    (f0 : W.frozen? ⟨b, 0, none⟩ = false) (f1 : W.frozen? ⟨b, 1, none⟩ = false) (f2 : W.frozen? ⟨b, 2, none⟩ = false) (f3 : W.frozen? ⟨b, 3, none⟩ = false)
    (k : w1.cell? ⟨b, 0, none⟩ = some c0 ∧ w1.cell? ⟨b, 1, none⟩ = some c1 ∧ w1.cell? ⟨b, 2, none⟩ = some c2 ∧ w1.cell? ⟨b, 3, none⟩ = some c3 ∧
      w1.frozen? ⟨b, 0, none⟩ = false ∧ w1.frozen? ⟨b, 1, none⟩ = false ∧ w1.frozen? ⟨b, 2, none⟩ = false ∧ w1.frozen? ⟨b, 3, none⟩ = false ∧ b < w1.heap.size → G) : G := k (cells4 hb hlt h0 h1 h2 h3 f0 f1 f2 f3)
theorem y5_then {G : Prop} {W w1 : World} {b : Nat} {c0 c1 c2 c3 c4 : Value} (hb : Below W.heap.size W w1) (hlt : b < W.heap.size) (h0 : W.cell? ⟨b, 0, none⟩ = some c0) (h1 : W.cell? ⟨b, 1, none⟩ = some c1) (h2 : W.cell? ⟨b, 2, none⟩ = some c2) (h3 : W.cell? ⟨b, 3, none⟩ = some c3) (h4 : W.cell? ⟨b, 4, none⟩ = some c4)
    (f0 : W.frozen? ⟨b, 0, none⟩ = false) (f1 : W.frozen? ⟨b, 1, none⟩ = false) (f2 : W.frozen? ⟨b, 2, none⟩ = false) (f3 : W.frozen? ⟨b, 3, none⟩ = false) (f4 : W.frozen? ⟨b, 4, none⟩ = false)
    (k : w1.cell? ⟨b, 0, none⟩ = some c0 ∧ w1.cell? ⟨b, 1, none⟩ = some c1 ∧ w1.cell? ⟨b, 2, none⟩ = some c2 ∧ w1.cell? ⟨b, 3, none⟩ = some c3 ∧ w1.cell? ⟨b, 4, none⟩ = some c4 ∧
      w1.frozen? ⟨b, 0, none⟩ = false ∧ w1.frozen? ⟨b, 1, none⟩ = false ∧ w1.frozen? ⟨b, 2, none⟩ = false ∧ w1.frozen? ⟨b, 3, none⟩ = false ∧ w1.frozen? ⟨b, 4, none⟩ = false ∧ b < w1.heap.size → G) : G := k (cells5 hb hlt h0 h1 h2 h3 h4 f0 f1 f2 f3 f4)
theorem keep2 {W w' : World} {b : Nat} {c0 c1 : Value} (h : Below W.heap.size W w') (hlt : b < W.heap.size) (h0 : W.cell? ⟨b, 0, none⟩ = some c0) (h1 : W.cell? ⟨b, 1, none⟩ = some c1) :
    w'.cell? ⟨b, 0, none⟩ = some c0 ∧ w'.cell? ⟨b, 1, none⟩ = some c1 ∧ Below W.heap.size W w' := ⟨(h.cell hlt).trans h0, (h.cell hlt).trans h1, h⟩

set_option maxHeartbeats 1000000 in
theorem then1_bad (A : Option Addr) (c : Nat) (l : List Int) (w : World) (h : Rd w A c l) (he : headE l ≠ 0) :
    Calls Try.prog 27 #[.slice A l.length c, .func (.func 28) #[] #[], .func (.func 29) #[] #[]] w fun e w' => e = .returned (.tuple #[.agg #[.int .u64 0, .int .u64 0, .bool false, .int .i64 0], .int .i64 0, .int .i64 (headE l)]) ∧ Below w.heap.size w w' := by
  have t1 : (headE l != 0) = true := by simp [he]
  have HR := Lib.hid h
  have HE := Lib.hid he
  clear h he
  go_enter Try.func27, Try.ntmps27
  go_wp2_with fail
  refine (getHead_bad A c l _ (HR.out.keep (by go_grown)) HE.out).mono ?_
  rintro e w1 ⟨rfl, hw1⟩
  have bw1 := below_of (w := w) (by go_grown) hw1
  obtain ⟨pa, pb, pc, pg, pd, pe, pf, ph, pz⟩ := cells4 (b := w.heap.size) hw1 (by go_size) (by go_simp <;> rfl) (by go_simp <;> rfl) (by go_simp <;> rfl) (by go_simp <;> rfl) (by go_simp <;> rfl) (by go_simp <;> rfl) (by go_simp <;> rfl) (by go_simp <;> rfl)
  obtain ⟨qa, qb, qc, qg, qd, qe, qf, qh, qz⟩ := cells4 (b := w.heap.size + 1) hw1 (by go_size) (by go_simp <;> rfl) (by go_simp <;> rfl) (by go_simp <;> rfl) (by go_simp <;> rfl) (by go_simp <;> rfl) (by go_simp <;> rfl) (by go_simp <;> rfl) (by go_simp <;> rfl)
  clear hw1
  go_wp2
  refine bodyPost_ret (v := .tuple #[.agg #[.int .u64 0, .int .u64 0, .bool false, .int .i64 0], .int .i64 0, .int .i64 (headE l)]) (by simp [*, results, Try.results27, go_sem] <;> rfl) rfl ⟨rfl, ?_⟩
  go_grown

set_option maxHeartbeats 2000000 in
theorem then1_gen (A : Option Addr) (c : Nat) (l : List Int) (w : World) (h : Rd w A c l) (he : headE l = 0) (p : Pf) (n E : Int) (hn0 : 0 ≤ n) (hn1 : n ≤ 16)
    (hD : ∀ W, Below w.heap.size w W → Calls Try.prog 29 #[.agg #[.bool (at0 l 0 == 6), .int .i64 (at0 l 1)], .slice (cutA A c 2) (l.length - 2) (c - 2)] W fun e w' => e = .returned (.tuple #[.agg #[.int .u64 (u p.a.hi), .int .u64 (u p.a.lo), .bool p.a.v6, .int .i64 p.n], .int .i64 n, .int .i64 E]) ∧ Below W.heap.size W w') :
    Calls Try.prog 27 #[.slice A l.length c, .func (.func 28) #[] #[], .func (.func 29) #[] #[]] w fun e w' => e = .returned (if E = 0 then .tuple #[.agg #[.int .u64 (u p.a.hi), .int .u64 (u p.a.lo), .bool p.a.v6, .int .i64 p.n], .int .i64 (2 + n), .int .i64 0] else .tuple #[.agg #[.int .u64 0, .int .u64 0, .bool false, .int .i64 0], .int .i64 0, .int .i64 E]) ∧ Below w.heap.size w w' := by
  have hlen : 2 ≤ l.length := by
    rcases Nat.lt_or_ge l.length 2 with h2 | h2
    · rw [show headE l = 6 by unfold headE; rw [if_pos h2]] at he
      cases he
    · exact h2
  have hsl : ∀ W : World, (Instr.slice 22 (.slice A l.length c) (some (.int .i64 2)) none none).run Try.prog W = .ok (.slice (cutA A c 2) (l.length - 2) (c - 2)) W := fun W => slice_from A l.length c 2 hlen W
  have HR := Lib.hid h
  have HE := Lib.hid he
  have HD := Lib.hid hD
  clear h he hD
  go_enter Try.func27, Try.ntmps27
  go_wp2_with fail
  refine (getHead_ok A c l _ (HR.out.keep (by go_grown)) HE.out).mono ?_
  rintro e w1 ⟨rfl, hw1⟩
  have bw1 := below_of (w := w) (by go_grown) hw1
  obtain ⟨pa, pb, pc, pg, pd, pe, pf, ph, pz⟩ := cells4 (b := w.heap.size) hw1 (by go_size) (by go_simp <;> rfl) (by go_simp <;> rfl) (by go_simp <;> rfl) (by go_simp <;> rfl) (by go_simp <;> rfl) (by go_simp <;> rfl) (by go_simp <;> rfl) (by go_simp <;> rfl)
  obtain ⟨qa, qb, qc, qg, qd, qe, qf, qh, qz⟩ := cells4 (b := w.heap.size + 1) hw1 (by go_size) (by go_simp <;> rfl) (by go_simp <;> rfl) (by go_simp <;> rfl) (by go_simp <;> rfl) (by go_simp <;> rfl) (by go_simp <;> rfl) (by go_simp <;> rfl) (by go_simp <;> rfl)
  clear hw1
  go_upto_region 5 with fail
  generalize hW : World.alloc _ _ = W
  have hz : w.heap.size ≤ W.heap.size := by subst hW; go_size
  have hB : Below w.heap.size w W := by subst hW; go_grown
  obtain ⟨p'a, p'b, p'c, p'g, p'd, p'e, p'f, p'h, p'z⟩ := cells4 (W := W) (b := w.heap.size) (Below.refl _ W) (by subst hW; go_size) (by subst hW; go_simp <;> rfl) (by subst hW; go_simp <;> rfl) (by subst hW; go_simp <;> rfl) (by subst hW; go_simp <;> rfl) (by subst hW; go_simp <;> rfl) (by subst hW; go_simp <;> rfl) (by subst hW; go_simp <;> rfl) (by subst hW; go_simp <;> rfl)
  obtain ⟨q'a, q'b, q'c, q'g, q'd, q'e, q'f, q'h, q'z⟩ := cells4 (W := W) (b := w.heap.size + 1) (Below.refl _ W) (by subst hW; go_size) (by subst hW; go_simp <;> rfl) (by subst hW; go_simp <;> rfl) (by subst hW; go_simp <;> rfl) (by subst hW; go_simp <;> rfl) (by subst hW; go_simp <;> rfl) (by subst hW; go_simp <;> rfl) (by subst hW; go_simp <;> rfl) (by subst hW; go_simp <;> rfl)
  obtain ⟨ra, rb, rc, rd, rz⟩ := cells2 (W := W) (b := w1.heap.size) (Below.refl _ W) (by subst hW; go_size) (by subst hW; go_simp <;> rfl) (by subst hW; go_simp <;> rfl) (by subst hW; go_simp <;> rfl) (by subst hW; go_simp <;> rfl)
  clear hW pa pb pc pd pe pf pg ph pz qa qb qc qd qe qf qg qh qz
  go_cut [12, 13, 14] (fun a b d wx => a = .int .i64 E ∧ d = .int .i64 n ∧ ∃ y, b = .pointer (some ⟨y, 0, none⟩) ∧ PBox wx y p ∧ Below W.heap.size W wx)
  case first =>
    go_region_held3 (fun w' => w'.cell? ⟨w1.heap.size, 0, none⟩ = some (.bool (at0 l 0 == 6)) ∧ w'.cell? ⟨w1.heap.size, 1, none⟩ = some (.int .i64 (at0 l 1)) ∧ Below W.heap.size W w')
      (first | exact keep2 hk5 rz ra rb | (refine keep2 ?_ rz ra rb; go_grown)) ((go_at_call 29; refine (HD.out _ (by go_grown)).mono ?_; rintro e w5 ⟨rfl, hw5⟩; have hk5 := below_of (w := W) (by go_grown) hw5; have zk5 := hk5.size; (try (refine y4_then (b := W.heap.size) (c0 := .int .u64 0) (c1 := .int .u64 0) (c2 := .bool false) (c3 := .int .i64 0) hw5 ?_ ?_ ?_ ?_ ?_ ?_ ?_ ?_ ?_ (fun y4 => ?_); go_size; go_simp; go_simp; go_simp; go_simp; go_simp; go_simp; go_simp; go_simp; obtain ⟨ya, yb, yc, yg, yd, ye, yf, yh, yz⟩ := y4))))
    all_goals (go_wp2_with fail; go_meet)
    all_goals
      refine ⟨rfl, rfl, _, rfl, ⟨?_, ?_, ?_, ?_, ?_, ?_, ?_, ?_, ?_⟩, ?_⟩
      all_goals first | (go_simp; done) | (go_simp <;> rfl) | go_size | go_grown
  case rest =>
    obtain ⟨rfl, rfl, y, rfl, ⟨ya, yb, yc, yg, yd, ye, yf, yh, yz⟩, hbc⟩ := hcut
    obtain ⟨pa, pb, pc, pg, pd, pe, pf, ph, pz⟩ := cells4 hbc p'z p'a p'b p'c p'g p'd p'e p'f p'h
    obtain ⟨qa, qb, qc, qg, qd, qe, qf, qh, qz⟩ := cells4 hbc q'z q'a q'b q'c q'g q'd q'e q'f q'h
    have bwc := hB.trans (hbc.mono hz)
    clear p'a p'b p'c p'd p'e p'f p'g p'h p'z q'a q'b q'c q'd q'e q'f q'g q'h q'z ra rb rc rd rz hbc hB hz hsl HD bw1
    by_cases hE : E = 0
    · have t2 : (E != 0) = false := by simp [hE]
      have HE2 := Lib.hid hE
      clear hE
      go_wp2
      refine bodyPost_ret (v := .tuple #[.agg #[.int .u64 (u p.a.hi), .int .u64 (u p.a.lo), .bool p.a.v6, .int .i64 p.n], .int .i64 (2 + n), .int .i64 0]) (by simp [*, results, Try.results27, go_sem] <;> rfl) rfl ⟨by first | rfl | rw [if_pos HE2.out], ?_⟩
      go_grown
    · have t2 : (E != 0) = true := by simp [hE]
      have HE2 := Lib.hid hE
      clear hE
      go_wp2
      refine bodyPost_ret (v := .tuple #[.agg #[.int .u64 0, .int .u64 0, .bool false, .int .i64 0], .int .i64 0, .int .i64 E]) (by simp [*, results, Try.results27, go_sem] <;> rfl) rfl ⟨by first | rfl | rw [if_neg HE2.out], ?_⟩
      go_grown

theorem head_len {l : List Int} (he : headE l = 0) : 2 ≤ l.length := by
  rcases Nat.lt_or_ge l.length 2 with h2 | h2
  · rw [show headE l = 6 by unfold headE; rw [if_pos h2]] at he
    cases he
  · exact h2
theorem head_wid {l : List Int} (he : headE l = 0) : at0 l 1 ≤ wid (at0 l 0 == 6) := by
  unfold headE at he
  split at he
  · cases he
  · split at he
    · cases he
    · split at he
      · cases he
      · omega
theorem getDigits_any (v : Bool) (n : Int) (h0 : 0 ≤ n) (h1 : n ≤ wid v) (A : Option Addr) (c : Nat) (l : List Int) (w : World) (h : Rd w A c l) :
    Calls Try.prog 29 #[.agg #[.bool v, .int .i64 n], .slice A l.length c] w fun e w' => e = .returned (.tuple #[.agg #[.int .u64 (u (if digE v n l = 0 then digP v n l else nilP).a.hi), .int .u64 (u (if digE v n l = 0 then digP v n l else nilP).a.lo), .bool (if digE v n l = 0 then digP v n l else nilP).a.v6, .int .i64 (if digE v n l = 0 then digP v n l else nilP).n], .int .i64 (if digE v n l = 0 then (need n : Int) else 0), .int .i64 (digE v n l)]) ∧ Below w.heap.size w w' := by
  rcases Nat.lt_or_ge l.length (need n) with hk | hk
  · have e : digE v n l = 6 := by unfold digE; rw [if_pos hk]
    rw [e]
    exact getDigits_short v n h0 h1 A c l w hk
  · cases hb : psane (digP v n l)
    · have e : digE v n l = 1 := by unfold digE; rw [if_neg (by omega), hb]; rfl
      rw [e]
      exact getDigits_long v n h0 h1 A c l w h hk false hb
    · have e : digE v n l = 0 := by unfold digE; rw [if_neg (by omega), hb]; rfl
      rw [e]
      exact getDigits_long v n h0 h1 A c l w h hk true hb
theorem then1_any (A : Option Addr) (c : Nat) (l : List Int) (w : World) (h : Rd w A c l) :
    Calls Try.prog 27 #[.slice A l.length c, .func (.func 28) #[] #[], .func (.func 29) #[] #[]] w fun e w' => e = .returned (.tuple #[.agg #[.int .u64 (u (getP l).a.hi), .int .u64 (u (getP l).a.lo), .bool (getP l).a.v6, .int .i64 (getP l).n], .int .i64 (getN l), .int .i64 (getE l)]) ∧ Below w.heap.size w w' := by
  by_cases he : headE l = 0
  · have hl := head_len he
    obtain ⟨b0, b1⟩ := at0_bd h.2.2.1 1
    have hw := head_wid he
    have hn := need_le _ _ b0 hw
    have hnb := nb_le (at0 l 0 == 6)
    have ee : getE l = digE (at0 l 0 == 6) (at0 l 1) (l.drop 2) := by unfold getE; rw [if_pos he]
    refine (then1_gen A c l w h he (if digE (at0 l 0 == 6) (at0 l 1) (l.drop 2) = 0 then digP (at0 l 0 == 6) (at0 l 1) (l.drop 2) else nilP) (if digE (at0 l 0 == 6) (at0 l 1) (l.drop 2) = 0 then (need (at0 l 1) : Int) else 0) (digE (at0 l 0 == 6) (at0 l 1) (l.drop 2)) (by split <;> omega) (by split <;> omega) fun W hW => ?_).mono fun e w' hh => ⟨hh.1.trans ?_, hh.2⟩
    · have hr := (h.keep hW).cut 2 hl
      have := getDigits_any (at0 l 0 == 6) (at0 l 1) b0 hw (cutA A c 2) (c - 2) (l.drop 2) W hr
      rw [List.length_drop] at this
      exact this
    · unfold getP getN
      rw [ee]
      by_cases hd : digE (at0 l 0 == 6) (at0 l 1) (l.drop 2) = 0
      · simp only [hd]
        rfl
      · simp only [if_neg hd]
        rfl
  · have ee : getE l = headE l := by unfold getE; rw [if_neg he]
    refine (then1_bad A c l w h he).mono fun e w' hh => ⟨hh.1.trans ?_, hh.2⟩
    unfold getP getN
    rw [ee, if_neg he, if_neg he]
    rfl
theorem get_any (A : Option Addr) (c : Nat) (l : List Int) (w : World) (h : Rd w A c l) :
    Calls Try.prog 10 #[.slice A l.length c] w fun e w' => e = .returned (.tuple #[.agg #[.int .u64 (u (getP l).a.hi), .int .u64 (u (getP l).a.lo), .bool (getP l).a.v6, .int .i64 (getP l).n], .int .i64 (getN l), .int .i64 (getE l)]) ∧ Below w.heap.size w w' := by
  have HR := Lib.hid h
  clear h
  go_enter Try.func10, Try.ntmps10
  go_wp2_with fail
  refine (then1_any A c l _ (HR.out.keep (by go_grown))).mono ?_
  rintro e w1 ⟨rfl, hw1⟩
  have bw1 := below_of (w := w) (by go_grown) hw1
  obtain ⟨pa, pb, pc, pg, pd, pe, pf, ph, pz⟩ := cells4 (b := w.heap.size) hw1 (by go_size) (by go_simp <;> rfl) (by go_simp <;> rfl) (by go_simp <;> rfl) (by go_simp <;> rfl) (by go_simp <;> rfl) (by go_simp <;> rfl) (by go_simp <;> rfl) (by go_simp <;> rfl)
  clear hw1
  go_wp2
  refine bodyPost_ret (v := .tuple #[.agg #[.int .u64 (u (getP l).a.hi), .int .u64 (u (getP l).a.lo), .bool (getP l).a.v6, .int .i64 (getP l).n], .int .i64 (getN l), .int .i64 (getE l)]) (by simp [*, results, Try.results10, go_sem] <;> rfl) rfl ⟨rfl, ?_⟩
  go_grown

end Go.Proofs.Ytibhabglmkgaaaa
