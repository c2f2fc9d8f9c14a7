/-
  The document's answer for the piece of an address. Condition: the pieces lie where the argument says.
-/
import Derived.Test.YtggceecolfebjaaY4
import Derived.Test.YtggceecolfebjaaY3
import Derived.Test.YtggceecolfebjaaY2
namespace Go.Proofs.Ytggceecolfebjaa
open Go.RowKit Go.Maps
set_option maxRecDepth 100000

theorem SBox.keep {w w' : World} {b : Nat} {x : Pc} (h : SBox w b x) (hb : Below w.heap.size w w') : SBox w' b x := by
  obtain ⟨c0, c1, c2, c3, c4, c5, hz⟩ := h
  exact ⟨(hb.cell (p := ⟨b, 0, none⟩) hz).trans c0, (hb.cell (p := ⟨b, 1, none⟩) hz).trans c1, (hb.cell (p := ⟨b, 2, none⟩) hz).trans c2, (hb.cell (p := ⟨b, 3, none⟩) hz).trans c3, (hb.cell (p := ⟨b, 4, none⟩) hz).trans c4, (hb.cell (p := ⟨b, 5, none⟩) hz).trans c5, Nat.lt_of_lt_of_le hz hb.size⟩
theorem atL_all (L : List Pr) (p : Pf) (a : Ad) : (atL (piecesL L p) a).isSome = pcon p a := by
  cases hp : psane p
  · have e : piecesL L p = [] := by unfold piecesL allB; rw [if_neg (by rw [hp]; decide)]; rfl
    have h2 : pcon p a = false := bool_not fun h => by
      have := ((pcon_iff p a).1 h).1
      rw [hp] at this
      cases this
    rw [e, h2]
    rfl
  · exact (atL_piece hp a).1
theorem same_facts (L : List Pr) (p : Pf) (a : Ad) : ∃ X yp, (atL (piecesL L p) a).getD nilPc = X ∧ (atL (sqz (piecesL L p)) a).getD nilPc = ⟨yp, X.h, X.r⟩ ∧ (atL (piecesL L p) a).isSome = pcon p a ∧ (atL (sqz (piecesL L p)) a).isSome = pcon p a ∧ (pcon p a = true → ((longL L a).getD nilPr).v = X.h ∧ (longL L a).isSome = X.r) := by
  have h1 := sqz_atL (piecesL L p) a
  have h2 := sqz_isSome (piecesL L p) a
  have h3 := atL_all L p a
  refine ⟨_, ((atL (sqz (piecesL L p)) a).getD nilPc).p, rfl, ?_, h3, h2.trans h3, fun hc => ?_⟩
  · cases e1 : atL (piecesL L p) a with
    | none =>
      rw [e1] at h1
      simp only [Option.map_none, Option.map_eq_none_iff] at h1
      rw [h1]
      try rfl
    | some x =>
      rw [e1] at h1
      simp only [Option.map_some] at h1
      obtain ⟨y, hy, hxy⟩ := Option.map_eq_some_iff.1 h1
      simp only [Prod.mk.injEq] at hxy
      rw [hy]
      show y = ⟨y.p, x.h, x.r⟩
      rw [← hxy.1, ← hxy.2]
  · rw [← h3] at hc
    obtain ⟨x, hx⟩ := Option.isSome_iff_exists.1 hc
    have hp : psane p = true := ((pcon_iff p a).1 (by rw [← h3]; exact hc)).1
    have := (atL_piece hp a).2 x hx
    rw [hx]
    exact ⟨this.1.symm, this.2.symm⟩

end Go.Proofs.Ytggceecolfebjaa

namespace Go.Proofs.Ytggceecolfebjaa
open Go.RowKit Go.Maps
set_option maxRecDepth 100000

set_option maxHeartbeats 4000000 in
theorem kpair_any (x y : Pc) (w : World) : Calls Try.prog 66 #[.agg #[.int .u64 (u x.p.a.hi), .int .u64 (u x.p.a.lo), .bool x.p.a.v6, .int .i64 x.p.n, .int .i64 x.h, .bool x.r], .agg #[.int .u64 (u y.p.a.hi), .int .u64 (u y.p.a.lo), .bool y.p.a.v6, .int .i64 y.p.n, .int .i64 y.h, .bool y.r]] w fun e w' => e = .returned (.bool (pairP x y)) ∧ Below w.heap.size w w' := by
  have CC := Lib.hid (fun W => rpcmp_any x.p y.p W)
  have cs := fun W => rpsib_any x.p W
  cases h4 : (psib x.p).2
  case false =>
    have HJ := Lib.hid (show pairP x y = false by unfold pairP; simp [h4])
    simp only [h4] at cs
    have CS2 := Lib.hid cs
    clear cs h4
    go_enter Try.func66, Try.ntmps66
    go_upto_region 1 with fail
    generalize hV : World.alloc _ _ = w1
    have b1 : Below w.heap.size w w1 := by subst hV; go_grown
    have Hx1 : Hid (SBox w1 w.heap.size x) := Lib.hid (by subst hV; exact ⟨by go_simp <;> rfl, by go_simp <;> rfl, by go_simp <;> rfl, by go_simp <;> rfl, by go_simp <;> rfl, by go_simp <;> rfl, by go_size⟩)
    have Hy1 : Hid (SBox w1 (w.heap.size + 1) y) := Lib.hid (by subst hV; exact ⟨by go_simp <;> rfl, by go_simp <;> rfl, by go_simp <;> rfl, by go_simp <;> rfl, by go_simp <;> rfl, by go_simp <;> rfl, by go_size⟩)
    have z1 := Hy1.out.2.2.2.2.2.2
    clear hV
    obtain ⟨x0, x1, x2, x3, x4, x5, xz⟩ := id Hx1.out
    go_wp2_with fail
    refine (CS2.out _).mono ?_
    rintro e w2 ⟨rfl, hw⟩
    have ee := hw
    have Hx2 := Lib.hid (Hx1.out.keep ee)
    have Hy2 := Lib.hid (Hy1.out.keep ee)
    have b2 := b1.trans (ee.mono b1.size)
    have z2 := b2.size
    have y2 := ee.size
    clear hw ee Hx1 Hy1 x0 x1 x2 x3 x4 x5 xz
    go_wp2
    go_ret
    exact ⟨by rw [HJ.out]; rfl, by go_grown⟩
  simp only [h4] at cs
  by_cases h5 : (psib x.p).1 = y.p
  case neg =>
    have HJ := Lib.hid (show pairP x y = false by unfold pairP; simp [h5])
    have t5 : pfB (u (psib x.p).1.a.hi) (u (psib x.p).1.a.lo) (psib x.p).1.a.v6 (psib x.p).1.n (u y.p.a.hi) (u y.p.a.lo) y.p.a.v6 y.p.n = false := by
      cases h : pfB (u (psib x.p).1.a.hi) (u (psib x.p).1.a.lo) (psib x.p).1.a.v6 (psib x.p).1.n (u y.p.a.hi) (u y.p.a.lo) y.p.a.v6 y.p.n
      · rfl
      · exact absurd ((pfEq_iff _ _).1 h) h5
    have CS2 := Lib.hid cs
    clear cs h4 h5
    go_enter Try.func66, Try.ntmps66
    go_upto_region 1 with fail
    generalize hV : World.alloc _ _ = w1
    have b1 : Below w.heap.size w w1 := by subst hV; go_grown
    have Hx1 : Hid (SBox w1 w.heap.size x) := Lib.hid (by subst hV; exact ⟨by go_simp <;> rfl, by go_simp <;> rfl, by go_simp <;> rfl, by go_simp <;> rfl, by go_simp <;> rfl, by go_simp <;> rfl, by go_size⟩)
    have Hy1 : Hid (SBox w1 (w.heap.size + 1) y) := Lib.hid (by subst hV; exact ⟨by go_simp <;> rfl, by go_simp <;> rfl, by go_simp <;> rfl, by go_simp <;> rfl, by go_simp <;> rfl, by go_simp <;> rfl, by go_size⟩)
    have z1 := Hy1.out.2.2.2.2.2.2
    clear hV
    obtain ⟨x0, x1, x2, x3, x4, x5, xz⟩ := id Hx1.out
    go_wp2_with fail
    refine (CS2.out _).mono ?_
    rintro e w2 ⟨rfl, hw⟩
    have ee := hw
    have Hx2 := Lib.hid (Hx1.out.keep ee)
    have Hy2 := Lib.hid (Hy1.out.keep ee)
    have b2 := b1.trans (ee.mono b1.size)
    have z2 := b2.size
    have y2 := ee.size
    clear hw ee Hx1 Hy1 x0 x1 x2 x3 x4 x5 xz
    obtain ⟨y0, y1, y2, y3, y4, y5, yz⟩ := id Hy2.out
    have yn0 : ¬ w.heap.size + 1 = w2.heap.size := by omega
    go_wp2
    go_ret
    exact ⟨by rw [HJ.out]; rfl, by go_grown⟩
  have t5 : pfB (u (psib x.p).1.a.hi) (u (psib x.p).1.a.lo) (psib x.p).1.a.v6 (psib x.p).1.n (u y.p.a.hi) (u y.p.a.lo) y.p.a.v6 y.p.n = true := (pfEq_iff _ _).2 h5
  by_cases h3 : pcmp x.p y.p < 0
  case neg =>
    have HJ := Lib.hid (show pairP x y = false by unfold pairP; simp [h3])
    have t3 : decide (pcmp x.p y.p < 0) = false := decide_eq_false h3
    have CS2 := Lib.hid cs
    clear cs h4 h5 h3
    go_enter Try.func66, Try.ntmps66
    go_upto_region 1 with fail
    generalize hV : World.alloc _ _ = w1
    have b1 : Below w.heap.size w w1 := by subst hV; go_grown
    have Hx1 : Hid (SBox w1 w.heap.size x) := Lib.hid (by subst hV; exact ⟨by go_simp <;> rfl, by go_simp <;> rfl, by go_simp <;> rfl, by go_simp <;> rfl, by go_simp <;> rfl, by go_simp <;> rfl, by go_size⟩)
    have Hy1 : Hid (SBox w1 (w.heap.size + 1) y) := Lib.hid (by subst hV; exact ⟨by go_simp <;> rfl, by go_simp <;> rfl, by go_simp <;> rfl, by go_simp <;> rfl, by go_simp <;> rfl, by go_simp <;> rfl, by go_size⟩)
    have z1 := Hy1.out.2.2.2.2.2.2
    clear hV
    obtain ⟨x0, x1, x2, x3, x4, x5, xz⟩ := id Hx1.out
    go_wp2_with fail
    refine (CS2.out _).mono ?_
    rintro e w2 ⟨rfl, hw⟩
    have ee := hw
    have Hx2 := Lib.hid (Hx1.out.keep ee)
    have Hy2 := Lib.hid (Hy1.out.keep ee)
    have b2 := b1.trans (ee.mono b1.size)
    have z2 := b2.size
    have y2 := ee.size
    clear hw ee Hx1 Hy1 x0 x1 x2 x3 x4 x5 xz
    obtain ⟨x0, x1, x2, x3, x4, x5, xz⟩ := id Hx2.out
    have xn0 : ¬ w.heap.size = w2.heap.size := by omega
    obtain ⟨y0, y1, y2, y3, y4, y5, yz⟩ := id Hy2.out
    have yn0 : ¬ w.heap.size + 1 = w2.heap.size := by omega
    go_wp2_with fail
    refine (CC.out _).mono ?_
    rintro e w3 ⟨rfl, hw⟩
    have ee : Below w2.heap.size w2 w3 := below_of (by go_grown) hw
    have Hs3 : Hid (PBox w3 (w2.heap.size) (psib x.p).1) := Lib.hid (PBox.keep (by exact ⟨by go_simp <;> rfl, by go_simp <;> rfl, by go_simp <;> rfl, by go_simp <;> rfl, by go_simp <;> rfl, by go_simp <;> rfl, by go_simp <;> rfl, by go_simp <;> rfl, by go_size⟩) hw)
    have Hx3 := Lib.hid (Hx2.out.keep ee)
    have Hy3 := Lib.hid (Hy2.out.keep ee)
    have b3 := b2.trans (ee.mono b2.size)
    have z3 := b3.size
    have y3 := ee.size
    clear hw ee Hx2 Hy2 x0 x1 x2 x3 x4 x5 xz xn0 y0 y1 y2 y3 y4 y5 yz yn0
    obtain ⟨x0, x1, x2, x3, x4, x5, xz⟩ := id Hx3.out
    obtain ⟨y0, y1, y2, y3, y4, y5, yz⟩ := id Hy3.out
    go_wp2
    go_ret
    exact ⟨by rw [HJ.out]; rfl, by go_grown⟩
  have t3 : decide (pcmp x.p y.p < 0) = true := decide_eq_true h3
  by_cases h1 : x.h = y.h
  case neg =>
    have HJ := Lib.hid (show pairP x y = false by unfold pairP; simp [h1])
    have t1 : (x.h == y.h) = false := by rw [beq_eq_false_iff_ne]; exact h1
    have CS2 := Lib.hid cs
    clear cs h4 h5 h3 h1
    go_enter Try.func66, Try.ntmps66
    go_upto_region 1 with fail
    generalize hV : World.alloc _ _ = w1
    have b1 : Below w.heap.size w w1 := by subst hV; go_grown
    have Hx1 : Hid (SBox w1 w.heap.size x) := Lib.hid (by subst hV; exact ⟨by go_simp <;> rfl, by go_simp <;> rfl, by go_simp <;> rfl, by go_simp <;> rfl, by go_simp <;> rfl, by go_simp <;> rfl, by go_size⟩)
    have Hy1 : Hid (SBox w1 (w.heap.size + 1) y) := Lib.hid (by subst hV; exact ⟨by go_simp <;> rfl, by go_simp <;> rfl, by go_simp <;> rfl, by go_simp <;> rfl, by go_simp <;> rfl, by go_simp <;> rfl, by go_size⟩)
    have z1 := Hy1.out.2.2.2.2.2.2
    clear hV
    obtain ⟨x0, x1, x2, x3, x4, x5, xz⟩ := id Hx1.out
    go_wp2_with fail
    refine (CS2.out _).mono ?_
    rintro e w2 ⟨rfl, hw⟩
    have ee := hw
    have Hx2 := Lib.hid (Hx1.out.keep ee)
    have Hy2 := Lib.hid (Hy1.out.keep ee)
    have b2 := b1.trans (ee.mono b1.size)
    have z2 := b2.size
    have y2 := ee.size
    clear hw ee Hx1 Hy1 x0 x1 x2 x3 x4 x5 xz
    obtain ⟨x0, x1, x2, x3, x4, x5, xz⟩ := id Hx2.out
    have xn0 : ¬ w.heap.size = w2.heap.size := by omega
    obtain ⟨y0, y1, y2, y3, y4, y5, yz⟩ := id Hy2.out
    have yn0 : ¬ w.heap.size + 1 = w2.heap.size := by omega
    go_wp2_with fail
    refine (CC.out _).mono ?_
    rintro e w3 ⟨rfl, hw⟩
    have ee : Below w2.heap.size w2 w3 := below_of (by go_grown) hw
    have Hs3 : Hid (PBox w3 (w2.heap.size) (psib x.p).1) := Lib.hid (PBox.keep (by exact ⟨by go_simp <;> rfl, by go_simp <;> rfl, by go_simp <;> rfl, by go_simp <;> rfl, by go_simp <;> rfl, by go_simp <;> rfl, by go_simp <;> rfl, by go_simp <;> rfl, by go_size⟩) hw)
    have Hx3 := Lib.hid (Hx2.out.keep ee)
    have Hy3 := Lib.hid (Hy2.out.keep ee)
    have b3 := b2.trans (ee.mono b2.size)
    have z3 := b3.size
    have y3 := ee.size
    clear hw ee Hx2 Hy2 x0 x1 x2 x3 x4 x5 xz xn0 y0 y1 y2 y3 y4 y5 yz yn0
    obtain ⟨x0, x1, x2, x3, x4, x5, xz⟩ := id Hx3.out
    obtain ⟨y0, y1, y2, y3, y4, y5, yz⟩ := id Hy3.out
    go_wp2
    go_ret
    exact ⟨by rw [HJ.out]; rfl, by go_grown⟩
  have t1 : (x.h == y.h) = true := by rw [beq_iff_eq]; exact h1
  by_cases h2 : x.r = y.r
  case neg =>
    have HJ := Lib.hid (show pairP x y = false by unfold pairP; simp [h2])
    have t2 : (x.r == y.r) = false := by rw [beq_eq_false_iff_ne]; exact h2
    have CS2 := Lib.hid cs
    clear cs h4 h5 h3 h1 h2
    go_enter Try.func66, Try.ntmps66
    go_upto_region 1 with fail
    generalize hV : World.alloc _ _ = w1
    have b1 : Below w.heap.size w w1 := by subst hV; go_grown
    have Hx1 : Hid (SBox w1 w.heap.size x) := Lib.hid (by subst hV; exact ⟨by go_simp <;> rfl, by go_simp <;> rfl, by go_simp <;> rfl, by go_simp <;> rfl, by go_simp <;> rfl, by go_simp <;> rfl, by go_size⟩)
    have Hy1 : Hid (SBox w1 (w.heap.size + 1) y) := Lib.hid (by subst hV; exact ⟨by go_simp <;> rfl, by go_simp <;> rfl, by go_simp <;> rfl, by go_simp <;> rfl, by go_simp <;> rfl, by go_simp <;> rfl, by go_size⟩)
    have z1 := Hy1.out.2.2.2.2.2.2
    clear hV
    obtain ⟨x0, x1, x2, x3, x4, x5, xz⟩ := id Hx1.out
    go_wp2_with fail
    refine (CS2.out _).mono ?_
    rintro e w2 ⟨rfl, hw⟩
    have ee := hw
    have Hx2 := Lib.hid (Hx1.out.keep ee)
    have Hy2 := Lib.hid (Hy1.out.keep ee)
    have b2 := b1.trans (ee.mono b1.size)
    have z2 := b2.size
    have y2 := ee.size
    clear hw ee Hx1 Hy1 x0 x1 x2 x3 x4 x5 xz
    obtain ⟨x0, x1, x2, x3, x4, x5, xz⟩ := id Hx2.out
    have xn0 : ¬ w.heap.size = w2.heap.size := by omega
    obtain ⟨y0, y1, y2, y3, y4, y5, yz⟩ := id Hy2.out
    have yn0 : ¬ w.heap.size + 1 = w2.heap.size := by omega
    go_wp2_with fail
    refine (CC.out _).mono ?_
    rintro e w3 ⟨rfl, hw⟩
    have ee : Below w2.heap.size w2 w3 := below_of (by go_grown) hw
    have Hs3 : Hid (PBox w3 (w2.heap.size) (psib x.p).1) := Lib.hid (PBox.keep (by exact ⟨by go_simp <;> rfl, by go_simp <;> rfl, by go_simp <;> rfl, by go_simp <;> rfl, by go_simp <;> rfl, by go_simp <;> rfl, by go_simp <;> rfl, by go_simp <;> rfl, by go_size⟩) hw)
    have Hx3 := Lib.hid (Hx2.out.keep ee)
    have Hy3 := Lib.hid (Hy2.out.keep ee)
    have b3 := b2.trans (ee.mono b2.size)
    have z3 := b3.size
    have y3 := ee.size
    clear hw ee Hx2 Hy2 x0 x1 x2 x3 x4 x5 xz xn0 y0 y1 y2 y3 y4 y5 yz yn0
    obtain ⟨x0, x1, x2, x3, x4, x5, xz⟩ := id Hx3.out
    obtain ⟨y0, y1, y2, y3, y4, y5, yz⟩ := id Hy3.out
    go_wp2
    go_ret
    exact ⟨by rw [HJ.out]; rfl, by go_grown⟩
  have t2 : (x.r == y.r) = true := by rw [beq_iff_eq]; exact h2
  have HJ := Lib.hid (show pairP x y = true by unfold pairP; simp [h1, h2, h3, h4, h5])
  have CS2 := Lib.hid cs
  clear cs h4 h5 h3 h1 h2
  go_enter Try.func66, Try.ntmps66
  go_upto_region 1 with fail
  generalize hV : World.alloc _ _ = w1
  have b1 : Below w.heap.size w w1 := by subst hV; go_grown
  have Hx1 : Hid (SBox w1 w.heap.size x) := Lib.hid (by subst hV; exact ⟨by go_simp <;> rfl, by go_simp <;> rfl, by go_simp <;> rfl, by go_simp <;> rfl, by go_simp <;> rfl, by go_simp <;> rfl, by go_size⟩)
  have Hy1 : Hid (SBox w1 (w.heap.size + 1) y) := Lib.hid (by subst hV; exact ⟨by go_simp <;> rfl, by go_simp <;> rfl, by go_simp <;> rfl, by go_simp <;> rfl, by go_simp <;> rfl, by go_simp <;> rfl, by go_size⟩)
  have z1 := Hy1.out.2.2.2.2.2.2
  clear hV
  obtain ⟨x0, x1, x2, x3, x4, x5, xz⟩ := id Hx1.out
  go_wp2_with fail
  refine (CS2.out _).mono ?_
  rintro e w2 ⟨rfl, hw⟩
  have ee := hw
  have Hx2 := Lib.hid (Hx1.out.keep ee)
  have Hy2 := Lib.hid (Hy1.out.keep ee)
  have b2 := b1.trans (ee.mono b1.size)
  have z2 := b2.size
  have y2 := ee.size
  clear hw ee Hx1 Hy1 x0 x1 x2 x3 x4 x5 xz
  obtain ⟨x0, x1, x2, x3, x4, x5, xz⟩ := id Hx2.out
  have xn0 : ¬ w.heap.size = w2.heap.size := by omega
  obtain ⟨y0, y1, y2, y3, y4, y5, yz⟩ := id Hy2.out
  have yn0 : ¬ w.heap.size + 1 = w2.heap.size := by omega
  go_wp2_with fail
  refine (CC.out _).mono ?_
  rintro e w3 ⟨rfl, hw⟩
  have ee : Below w2.heap.size w2 w3 := below_of (by go_grown) hw
  have Hs3 : Hid (PBox w3 (w2.heap.size) (psib x.p).1) := Lib.hid (PBox.keep (by exact ⟨by go_simp <;> rfl, by go_simp <;> rfl, by go_simp <;> rfl, by go_simp <;> rfl, by go_simp <;> rfl, by go_simp <;> rfl, by go_simp <;> rfl, by go_simp <;> rfl, by go_size⟩) hw)
  have Hx3 := Lib.hid (Hx2.out.keep ee)
  have Hy3 := Lib.hid (Hy2.out.keep ee)
  have b3 := b2.trans (ee.mono b2.size)
  have z3 := b3.size
  have y3 := ee.size
  clear hw ee Hx2 Hy2 x0 x1 x2 x3 x4 x5 xz xn0 y0 y1 y2 y3 y4 y5 yz yn0
  obtain ⟨x0, x1, x2, x3, x4, x5, xz⟩ := id Hx3.out
  obtain ⟨y0, y1, y2, y3, y4, y5, yz⟩ := id Hy3.out
  go_wp2
  go_ret
  exact ⟨by rw [HJ.out]; rfl, by go_grown⟩

end Go.Proofs.Ytggceecolfebjaa

namespace Go.Proofs.Ytggceecolfebjaa
open Go.RowKit Go.Maps
set_option maxRecDepth 100000

theorem idx_rpiece (g off n c k : Nat) (h : k < n) (V : World) : (Instr.indexAt 40 (.slice (some ⟨g, off, none⟩) n c) (.int .i64 (k : Int))).run Try.prog V = .ok (.pointer (some ⟨g, off + k * 6, none⟩)) V := by
  have h0 : (0 : Int) ≤ (k : Int) := by omega
  have h1 : (k : Int) < (n : Int) := by omega
  go_simp
def KOnePost (w : World) (A : Option Addr) (c : Nat) (l : List Pc) (e : Ending) (w' : World) : Prop :=
  Below w.heap.size w w' ∧ ((oneL l = none ∧ e = .returned (.tuple #[.slice A l.length c, .bool false])) ∨ ∃ m A' c', oneL l = some m ∧ e = .returned (.tuple #[.slice A' m.length c', .bool true]) ∧ w'.ownsRow w.heap.size 53 pcK.k (.slice A' m.length c') m.length (pcK.row m))
set_option maxHeartbeats 8000000 in
theorem kone_any (A : Option Addr) (c : Nat) (l : List Pc) (w : World) (hr : pcK.Rd w A l) (hc : l.length ≤ c) (hl : l.length ≤ 10000) :
    Calls Try.prog 37 #[.slice A l.length c] w (KOnePost w A c l) := by
  have HR := Lib.hid hr
  have HC := Lib.hid hc
  have HL := Lib.hid hl
  clear hr hc hl
  unfold KOnePost
  go_enter Try.func37, Try.ntmps37
  go_wp2_with fail
  go_loopw [4] (fun i wr => ∃ k : Nat, i = .int .i64 k ∧ (k = 0 ∨ k + 1 ≤ l.length) ∧ Hid (∀ j, (h : j + 1 < l.length) → j < k → pairP l[j] l[j + 1] = false) ∧ Below w.heap.size w wr) (fun i _ => l.length - (RowKit.intOf i).toNat)
  case atStart => exact ⟨0, rfl, .inl rfl, Lib.hid (fun j _ h => absurd h (Nat.not_lt_zero _)), Below.refl _ _⟩
  case round =>
    obtain ⟨k, rfl, hk, hno, hB⟩ := hrel
    have hk8 : (k : Int) + 1 ≤ 200000 := by have := HL.out; omega
    by_cases hlt : k + 1 < l.length
    · have hlt' : decide ((k : Int) + 1 < (l.length : Int)) = true := decide_eq_true (by omega)
      obtain ⟨W, rfl⟩ : ∃ W, W = wr := ⟨_, rfl⟩
      obtain ⟨g, off, hA, hX⟩ := rd_ebox (HR.out.keep hB (Nat.le_refl _)) (show k < l.length by omega)
      subst hA
      obtain ⟨g', off', hA, hY⟩ := rd_ebox (HR.out.keep hB (Nat.le_refl _)) hlt
      cases hA
      obtain ⟨x, hx⟩ : ∃ x, l[k] = x := ⟨_, rfl⟩
      obtain ⟨y, hy⟩ : ∃ y, l[k + 1] = y := ⟨_, rfl⟩
      rw [hx] at hX
      rw [hy] at hY
      have HXX := Lib.hid (show l[k]? = some x by rw [List.getElem?_eq_getElem (by omega), hx])
      have HYY := Lib.hid (show l[k + 1]? = some y by rw [List.getElem?_eq_getElem hlt, hy])
      have HX := Lib.hid hX
      have HLT := Lib.hid hlt
      have HB := Lib.hid hB
      have hi1 := fun V => idx_rpiece g off l.length c k (by omega) V
      have hi2 := fun V => idx_rpiece g off l.length c (k + 1) hlt V
      rw [show ((k + 1 : Nat) : Int) = (k : Int) + 1 by omega] at hi2
      have hk0 : IntKind.i64.wrap ((k : Int) + 1) = (k : Int) + 1 := by rw [IntKind.wrap_i64]; omega
      obtain ⟨m0, m1, m2, m3, m4, m5, zm⟩ := hX
      obtain ⟨n0, n1, n2, n3, n4, n5, zn⟩ := hY
      have Lm0 := fun q : Later W.heap.size W => (q.cell (p := ⟨g, off + k * 6, none⟩) zm).trans m0
      have Lm1 := fun q : Later W.heap.size W => (q.cell (p := ⟨g, off + k * 6 + 1, none⟩) zm).trans m1
      have Lm2 := fun q : Later W.heap.size W => (q.cell (p := ⟨g, off + k * 6 + 2, none⟩) zm).trans m2
      have Lm3 := fun q : Later W.heap.size W => (q.cell (p := ⟨g, off + k * 6 + 3, none⟩) zm).trans m3
      have Lm4 := fun q : Later W.heap.size W => (q.cell (p := ⟨g, off + k * 6 + 4, none⟩) zm).trans m4
      have Lm5 := fun q : Later W.heap.size W => (q.cell (p := ⟨g, off + k * 6 + 5, none⟩) zm).trans m5
      have Ln0 := fun q : Later W.heap.size W => (q.cell (p := ⟨g, off + (k + 1) * 6, none⟩) zn).trans n0
      have Ln1 := fun q : Later W.heap.size W => (q.cell (p := ⟨g, off + (k + 1) * 6 + 1, none⟩) zn).trans n1
      have Ln2 := fun q : Later W.heap.size W => (q.cell (p := ⟨g, off + (k + 1) * 6 + 2, none⟩) zn).trans n2
      have Ln3 := fun q : Later W.heap.size W => (q.cell (p := ⟨g, off + (k + 1) * 6 + 3, none⟩) zn).trans n3
      have Ln4 := fun q : Later W.heap.size W => (q.cell (p := ⟨g, off + (k + 1) * 6 + 4, none⟩) zn).trans n4
      have Ln5 := fun q : Later W.heap.size W => (q.cell (p := ⟨g, off + (k + 1) * 6 + 5, none⟩) zn).trans n5
      have cj := fun W => kpair_any x y W
      clear hx hy hlt hk hB m0 m1 m2 m3 m4 m5 n0 n1 n2 n3 n4 n5
      cases hpr : pairP x y
      all_goals
        rw [hpr] at cj
        have CJ := Lib.hid cj
        have HPR := Lib.hid hpr
        clear cj hpr
        go_wp2_with fail
        clear hlt'
        refine region_later W.heap.size (by kernel_rfl) (by kernel_rfl) ?_
        repeat (go_big_quiet_step ((go_at_call 66; exact later_of (Nat.le_refl _) (CJ.out _))))
        refine wpQuiet_nil ?_
        intro q
        have hq := q.below
        generalize q.at = V at hq ⊢
        clear q Lm0 Lm1 Lm2 Lm3 Lm4 Lm5 Ln0 Ln1 Ln2 Ln3 Ln4 Ln5 hi2 hk0
        have bV := HB.out.trans (hq.mono HB.out.size)
        have HXV := Lib.hid (HX.out.keep hq)
        clear hq
      · clear hi1
        go_wp2
        go_roundw
        case rel => exact ⟨k + 1, by go_num, .inr (by have := HLT.out; omega), Lib.hid (fun j h hj => by
          rcases Nat.lt_or_eq_of_le (Nat.le_of_lt_succ hj) with e | e
          · exact hno.out j h e
          · subst e
            rw [el_of HXX.out, el_of HYY.out]
            exact HPR.out), bV⟩
        case measure => simp [RowKit.intOf]; have := HLT.out; omega
      · have HP := Lib.hid (fun W => rpparent_any x.p W)
        obtain ⟨m0, m1, m2, m3, m4, m5, zm⟩ := id HXV.out
        have zV := bV.size
        go_wp2_with fail
        refine (HP.out _).mono ?_
        rintro e w2 ⟨rfl, hw2⟩
        have b2 := bV.trans (hw2.mono zV)
        have z2 := b2.size
        have HX2 := Lib.hid (HXV.out.keep hw2)
        have HR2 := Lib.hid (HR.out.keep b2 (Nat.le_refl _))
        clear hw2 m0 m1 m2 m3 m4 m5 zm zV HXV hi1
        obtain ⟨Q, hQ⟩ : ∃ Q, (pparent x.p).1 = Q := ⟨_, rfl⟩
        have hup : upP x = ⟨Q, x.h, x.r⟩ := by rw [← hQ]; rfl
        rw [hQ]
        have HUP := Lib.hid hup
        clear hQ hup
        have hs1 : ∀ V : World, (Instr.slice 40 (.slice (some ⟨g, off, none⟩) l.length c) none (some (.int .i64 (k : Int))) none).run Try.prog V = .ok (.slice (some ⟨g, off, none⟩) k c) V := fun V => by
          have := Kd.slice_to ty_rpiece (some ⟨g, off, none⟩) l.length c (k : Int) (by omega) (by have := HLT.out; have := HC.out; omega) V
          simpa using this
        obtain ⟨C2, hC2⟩ : ∃ C2, cutK pcK.k (some ⟨g, off, none⟩) c (k + 2) = C2 := ⟨_, rfl⟩
        have hs2 : ∀ V : World, (Instr.slice 40 (.slice (some ⟨g, off, none⟩) l.length c) (some (.int .i64 ((k : Int) + 2))) none none).run Try.prog V = .ok (.slice C2 (l.length - (k + 2)) (c - (k + 2))) V := fun V => by
          have := Kd.slice_from ty_rpiece (some ⟨g, off, none⟩) l.length c ((k : Int) + 2) (by omega) (by have := HLT.out; omega) V
          rw [this, show ((k : Int) + 2).toNat = k + 2 by omega, hC2]
        have hC3 : C2 ≠ none := by
          rw [← hC2]
          unfold cutK
          split <;> simp
        have HC3 := Lib.hid hC3
        have HC2 := Lib.hid hC2
        have hlk : k = (l.take k).length := by rw [List.length_take]; have := HLT.out; omega
        have HLK := Lib.hid hlk
        have k9 : (k : Int) + 2 ≤ 200000 := by have := HL.out; have := HLT.out; omega
        have k8 : k ≤ 10000 := by have := HL.out; have := HLT.out; omega
        clear hC2 hC3 hlk hk8
        go_upto_region 6 with fail
        generalize hV : World.alloc _ _ = w3
        have ee : Below w2.heap.size w2 w3 := by subst hV; go_grown
        have HP3 : Hid (PBox w3 w2.heap.size Q) := Lib.hid (by subst hV; exact ⟨by go_simp <;> rfl, by go_simp <;> rfl, by go_simp <;> rfl, by go_simp <;> rfl, by go_simp <;> rfl, by go_simp <;> rfl, by go_simp <;> rfl, by go_simp <;> rfl, by go_size⟩)
        have HX3 := Lib.hid (HX2.out.keep ee)
        have HR3 := Lib.hid (HR2.out.kept ee)
        have b3 := b2.trans (ee.mono z2)
        have z3 := b3.size
        clear hV ee HX2 HR2 b2
        go_upto_region 7 with (at_builtin; refine Kd.wpList_many ty_rpiece rfl (.tmp 34) (.tmp 37) rfl w3.heap.size _ 0 [] rfl (by rfl) (own_none (hp_new rfl) _ (Nat.le_refl _)) _ k c (l.take k) HLK.out (fun e => by cases e) (by rfl) ((HR3.out.take k).kept (by go_grown)) (by omega) (by first | (simp; done) | go_size) ?_; intro A4 c4 w4 hG; have b4 : Below w3.heap.size w3 w4 := Below.trans (by go_grown) hG.2.2.2; have HG := Lib.hid hG.1; clear hG)
        have hG := HG.out
        rw [List.nil_append, Nat.zero_add] at hG
        have HO4 := Lib.hid hG
        have HP4 := Lib.hid (HP3.out.keep b4)
        have HX4 := Lib.hid (HX3.out.keep b4)
        have HR4 := Lib.hid (HR3.out.kept b4)
        have b9 := b3.trans (b4.mono z3)
        have B4 := Lib.hid b4
        have z4 := b4.size
        clear hG HG HP3 HX3 HR3 b4 hs1
        try go_frame
        obtain ⟨pa, pb, pc, pd, -, -, -, -, pz⟩ := id HP4.out
        obtain ⟨m0, m1, m2, m3, m4, m5, zm⟩ := id HX4.out
        have hi1 := fun V => idx_rpiece g off l.length c k (by have := HLT.out; omega) V
        have Lpa := fun q : Later w4.heap.size w4 => (q.cell pz).trans pa
        have Lpb := fun q : Later w4.heap.size w4 => (q.cell pz).trans pb
        have Lpc := fun q : Later w4.heap.size w4 => (q.cell pz).trans pc
        have Lpd := fun q : Later w4.heap.size w4 => (q.cell pz).trans pd
        have Lm4 := fun q : Later w4.heap.size w4 => (q.cell (p := ⟨g, off + k * 6 + 4, none⟩) zm).trans m4
        have Lm5 := fun q : Later w4.heap.size w4 => (q.cell (p := ⟨g, off + k * 6 + 5, none⟩) zm).trans m5
        clear pa pb pc pd m0 m1 m2 m3 m4 m5
        refine region_tail1 13 w4.heap.size (.slice A4 k c4) (by kernel_rfl) (by kernel_rfl) (.inl ⟨rfl, fun _ => by simp [go_sem]⟩) (fun _ _ _ h => h) ?_
        simp only [Nat.reduceSub, List.take_succ_cons, List.take_zero, List.drop_succ_cons, List.drop_zero, Act.put, List.setIfInBounds_toArray, List.set_cons_succ, List.set_cons_zero]
        repeat (go_big_quiet_step (fail))
        refine wpQuiet_nil ?_
        intro q
        have hq := q.below
        clear Lpa Lpb Lpc Lpd Lm4 Lm5 hi1
        generalize q.at = w5 at hq ⊢
        clear q
        have b5 := b9.trans (hq.mono b9.size)
        have HO5 := Lib.hid (own_block HO4.out (fun b _ hl => hq.block b hl))
        have HR5 := Lib.hid (HR4.out.kept hq)
        have z5 := hq.size
        have B5 := Lib.hid (B4.out.trans (hq.mono z4))
        clear hq HP4 HX4 HR4 HO4 b9 B4 pz zm
        go_upto_region 8 with (at_builtin; refine Kd.wpList_one ty_rpiece rfl (.tmp 39) (.tmp 52) rfl w3.heap.size _ k (l.take k) HLK.out (by rfl) (own_block HO5.out (fun b _ hl => Below.block (B := w5.heap.size) (w := w5) (by go_grown) b hl)) _ ⟨Q, x.h, x.r⟩ (by rfl) (hp_new rfl) (by omega) (by first | (simp; omega) | omega) ?_; intro A6 c6 w6 hG; have HG := Lib.hid hG.1; have b6 : Below w3.heap.size w3 w6 := (B5.out.alloc (by omega) _).trans hG.2.2.2; clear hG)
        try go_frame
        have bW := b3.trans (b6.mono z3)
        have HRD := Lib.hid ((HR.out.keep bW (Nat.le_refl _)).cut c (k + 2) HC.out)
        rw [HC2.out] at HRD
        have hlen := repl_len (show k + 2 ≤ l.length by have := HLT.out; omega) (upP x)
        have hone : oneL l = some (repL l k (upP x)) := by
          have := oneL_at (l := l) k (fun j h hj => hno.out j h hj) HLT.out (by rw [el_of HXX.out, el_of HYY.out]; exact HPR.out)
          rw [this, el_of HXX.out]
          rfl
        have hrep : repL l k (upP x) = (l.take k ++ [⟨Q, x.h, x.r⟩]) ++ l.drop (k + 2) := by
          unfold repL
          rw [HUP.out]
          simp
        have hle1 : k + 1 = (l.take k ++ [⟨Q, x.h, x.r⟩] : List Pc).length := by rw [List.length_append, ← HLK.out]; rfl
        have hle2 : l.length - (k + 2) = (l.drop (k + 2)).length := by rw [List.length_drop]
        have hle3 : k + 1 + (l.length - (k + 2)) = (repL l k (upP x)).length := by have := HLT.out; omega
        have HL1 := Lib.hid hle1
        have HL2 := Lib.hid hle2
        have HL3 := Lib.hid hle3
        have HON := Lib.hid hone
        have HRP := Lib.hid hrep
        have z6 := b6.size
        have HL9 := Lib.hid (show k + 1 + (l.length - (k + 2)) ≤ 1000000000 by have := HL.out; omega)
        clear hlen hone hrep hle1 hle2 hle3
        go_wp2_with (at_builtin; refine Kd.wpList_many ty_rpiece rfl (.tmp 54) (.tmp 58) rfl w3.heap.size _ (k + 1) _ HL1.out (by rfl) HG.out C2 (l.length - (k + 2)) (c - (k + 2)) (l.drop (k + 2)) HL2.out (fun e => absurd e HC3.out) (by rfl) HRD.out HL9.out z6 ?_; intro A8 c8 w8 hG8; have HG8 := Lib.hid hG8.1; have b8 : Below w.heap.size w w8 := bW.trans (hG8.2.2.2.mono z3); clear hG8)
        refine bodyPost_ret (v := .tuple #[.slice A8 (k + 1 + (l.length - (k + 2))) c8, .bool true]) (by simp [*, results, Try.results37, go_sem] <;> rfl) rfl ⟨b8, .inr ⟨repL l k (upP x), A8, c8, HON.out, by rw [HL3.out], ?_⟩⟩
        rw [← HL3.out, HRP.out]
        exact own_base HG8.out z3
    · have hlt' : decide ((k : Int) + 1 < (l.length : Int)) = false := decide_eq_false (by omega)
      have HN := Lib.hid (oneL_no fun j hj => hno.out j hj (by omega))
      clear hlt
      go_wp2
      refine bodyPost_ret (v := .tuple #[.slice A l.length c, .bool false]) (by simp [*, results, Try.results37, go_sem] <;> rfl) rfl ⟨hB, .inl ⟨HN.out, rfl⟩⟩

end Go.Proofs.Ytggceecolfebjaa

namespace Go.Proofs.Ytggceecolfebjaa
open Go.RowKit Go.Maps
set_option maxRecDepth 100000

def KSq (w : World) (l : List Pc) (v b : Value) (wr : World) : Prop :=
  ∃ (m : List Pc) (A : Option Addr) (c : Nat) (ok : Bool), v = .slice A m.length c ∧ b = .bool ok ∧ wr.ownsRow w.heap.size 53 pcK.k (.slice A m.length c) m.length (pcK.row m) ∧ sqz m = sqz l ∧ (ok = false → oneL m = none) ∧ m.length ≤ l.length ∧ Below w.heap.size w wr
theorem own_rdr8 {w : World} {base c : Nat} {A : Option Addr} {l : List Pc} (h : w.ownsRow base 53 pcK.k (.slice A l.length c) l.length (pcK.row l)) : pcK.Rd w A l ∧ l.length ≤ c := by
  obtain ⟨A', c', e, hle, hrd, -⟩ := Kd.rd_own h rfl
  simp only [Value.slice.injEq, true_and] at e
  obtain ⟨rfl, rfl⟩ := e
  exact ⟨hrd, hle⟩
set_option maxHeartbeats 4000000 in
theorem ksqz_any (A : Option Addr) (c : Nat) (l : List Pc) (w : World) (hr : pcK.Rd w A l) (hA : A = none → l.length = 0 ∧ c = 0) (hl : l.length ≤ 10000) :
    Calls Try.prog 18 #[.slice A l.length c] w (RowRc w (sqz l)) := by
  have HR := Lib.hid hr
  have HL := Lib.hid hl
  clear hr hl
  go_enter Try.func18, Try.ntmps18
  go_wp2_with (at_builtin; refine Kd.wpList_many ty_rpiece rfl (.tmp 6) (.tmp 7) rfl w.heap.size _ 0 [] rfl (by rfl) (own_none (hp_new rfl) _ (Nat.le_refl _)) _ l.length c l rfl hA (by rfl) (HR.out.kept (by go_grown)) (by have := HL.out; omega) (by first | (simp; done) | go_size) ?_; intro A1 c1 w1 hG; have b1 : Below w.heap.size w w1 := Below.trans (by go_grown) hG.2.2.2; have HG := Lib.hid hG.1; clear hG)
  have hG := HG.out
  rw [List.nil_append, Nat.zero_add] at hG
  have HO := Lib.hid hG
  clear hG HG HR
  try rw [Nat.zero_add]
  obtain ⟨rd, rl⟩ := own_rdr8 HO.out
  refine (kone_any A1 c1 l w1 rd rl HL.out).mono ?_
  rintro e w2 ⟨hb2, hcase⟩
  have hst : ∃ v b, e = .returned (.tuple #[v, b]) ∧ KSq w l v b w2 := by
    rcases hcase with ⟨hn, rfl⟩ | ⟨m, A', c', hm, rfl, ho⟩
    · exact ⟨_, _, rfl, l, A1, c1, false, rfl, rfl, own_block HO.out (fun b _ hl => hb2.block b hl), rfl, fun _ => hn, Nat.le_refl _, b1.trans (hb2.mono b1.size)⟩
    · have := oneL_len hm
      exact ⟨_, _, rfl, m, A', c', true, rfl, rfl, own_base ho b1.size, (sqz_some hm).symm, (fun e => by cases e), by omega, b1.trans (hb2.mono b1.size)⟩
  obtain ⟨v, b, rfl, hst⟩ := hst
  have HST := Lib.hid hst
  clear hcase hb2 rd rl HO b1 hst
  go_wp2_with fail
  go_loopw [3, 4] (fun v b wr => KSq w l v b wr) (fun v b _ => match v, b with | .slice _ n _, .bool ok => n + (if ok then 1 else 0) | _, _ => 0)
  case atStart => exact HST.out
  case round =>
    clear HST
    obtain ⟨m, A3, c3, ok, rfl, rfl, ho, hs, hn, hml, hB⟩ := hrel
    have HO := Lib.hid ho
    have HS := Lib.hid hs
    have HN := Lib.hid hn
    have HM := Lib.hid hml
    have HB := Lib.hid hB
    clear ho hs hn hml hB
    cases ok
    · go_wp2
      go_ret
      have e := sqz_none (HN.out (by first | exact trivial | rfl))
      rw [HS.out] at e
      rw [e]
      exact ⟨A3, c3, rfl, HO.out, HB.out⟩
    · obtain ⟨rd, rl⟩ := own_rdr8 HO.out
      have RD := Lib.hid rd
      have RL := Lib.hid rl
      clear rd rl
      go_wp2_with fail
      refine (kone_any A3 c3 m wr RD.out RL.out (by have := HL.out; have := HM.out; omega)).mono ?_
      rintro e w5 ⟨hb5, hcase⟩
      rcases hcase with ⟨hn, rfl⟩ | ⟨m', A', c', hm, rfl, ho⟩
      · have HN5 := Lib.hid hn
        have HB5 := Lib.hid hb5
        clear hn hb5
        go_wp2
        go_roundw
        case rel => exact ⟨m, A3, c3, false, rfl, rfl, own_block HO.out (fun b _ hl => HB5.out.block b hl), HS.out, fun _ => HN5.out, HM.out, HB.out.trans (HB5.out.mono HB.out.size)⟩
        case measure => simp
      · have HM5 := Lib.hid hm
        have HB5 := Lib.hid hb5
        have HO5 := Lib.hid ho
        clear hm hb5 ho
        go_wp2
        go_roundw
        case rel => exact ⟨m', A', c', true, rfl, rfl, own_base HO5.out HB.out.size, (sqz_some HM5.out).symm.trans HS.out, (fun e => by cases e), by have := oneL_len HM5.out; have := HM.out; omega, HB.out.trans (HB5.out.mono HB.out.size)⟩
        case measure => have := oneL_len HM5.out; simp; omega

end Go.Proofs.Ytggceecolfebjaa

namespace Go.Proofs.Ytggceecolfebjaa
open Go.RowKit Go.Maps
set_option maxRecDepth 100000

def DBox (w : World) (b : Nat) (x : Pc) : Prop := w.heap[b]? = some (.cells #[.int .u64 (u x.p.a.hi), .int .u64 (u x.p.a.lo), .bool x.p.a.v6, .int .i64 x.p.n, .int .i64 x.h, .bool x.r] 53 (0, 0))
theorem DBox.keep {w w' : World} {b : Nat} {x : Pc} (h : DBox w b x) (hb : Below w.heap.size w w') : DBox w' b x := (hb.block _ (lt_of_block h)).trans h
set_option maxHeartbeats 4000000 in
theorem kat_any (A : Option Addr) (c : Nat) (l : List Pc) (a : Ad) (w : World) (hr : pcK.Rd w A l) (hl : l.length ≤ 10000) :
    Calls Try.prog 16 #[.slice A l.length c, .agg #[.int .u64 (u a.hi), .int .u64 (u a.lo), .bool a.v6]] w (AtPost w (atL l a)) := by
  have HR := Lib.hid hr
  have HL := Lib.hid hl
  clear hr hl
  unfold AtPost
  go_enter Try.func16, Try.ntmps16
  go_upto_region 1 with fail
  generalize hV : World.alloc _ _ = w1
  have b1 : Below w.heap.size w w1 := by subst hV; go_grown
  have HA1 : Hid (ABox w1 w.heap.size a) := Lib.hid (by subst hV; exact ⟨by go_simp <;> rfl, by go_simp <;> rfl, by go_simp <;> rfl, by go_size⟩)
  have Hq1 : Hid (DBox w1 (w.heap.size + 1) nilPc) := Lib.hid (by subst hV; unfold DBox; repeat (first | (refine hp_new ?_; (simp; done)) | (refine hp_old ?_ ?_; · (first | (simp; done) | (simp; omega)))))
  have HR1 := Lib.hid (HR.out.keep b1 (Nat.le_refl _))
  have z1 := lt_of_block Hq1.out
  clear hV HR
  go_wp2_with fail
  go_loopw [6] (fun i wr => ∃ k : Nat, k ≤ l.length ∧ i = .int .i64 k ∧ Hid (∀ j, (hj : j < k) → ∀ h : j < l.length, pcon l[j].p a = false) ∧ Below w1.heap.size w1 wr) (fun i _ => l.length - (RowKit.intOf i).toNat)
  case atStart => exact ⟨0, Nat.zero_le _, rfl, Lib.hid (fun j hj => absurd hj (Nat.not_lt_zero _)), Below.refl _ _⟩
  case round =>
    obtain ⟨k, hk, rfl, hno, hB⟩ := hrel
    have hk9 : k ≤ 10000 := by have := HL.out; omega
    obtain ⟨W, rfl⟩ : ∃ W, W = wr := ⟨_, rfl⟩
    have HB := Lib.hid hB
    have HAW := Lib.hid (HA1.out.keep hB)
    have HqW := Lib.hid (Hq1.out.keep hB)
    have zW := hB.size
    by_cases hlt : k < l.length
    · have hlt' : decide ((k : Int) < (l.length : Int)) = true := decide_eq_true (by omega)
      obtain ⟨g, off, hA, hX⟩ := rd_ebox (HR1.out.keep hB (Nat.le_refl _)) hlt
      subst hA
      have hi1 := fun V => idx_rpiece g off l.length c k hlt V
      obtain ⟨x, hx⟩ : ∃ x, l[k] = x := ⟨_, rfl⟩
      rw [hx] at hX
      have HXX := Lib.hid (show l[k]? = some x by rw [List.getElem?_eq_getElem hlt, hx])
      have HLT := Lib.hid hlt
      have HX := Lib.hid hX
      obtain ⟨m0, m1, m2, m3, m4, m5, zm⟩ := hX
      obtain ⟨pa, pb, pc, pz⟩ := id HAW.out
      have Lm0 := fun q : Later W.heap.size W => (q.cell (p := ⟨g, off + k * 6, none⟩) zm).trans m0
      have Lm1 := fun q : Later W.heap.size W => (q.cell (p := ⟨g, off + k * 6 + 1, none⟩) zm).trans m1
      have Lm2 := fun q : Later W.heap.size W => (q.cell (p := ⟨g, off + k * 6 + 2, none⟩) zm).trans m2
      have Lm3 := fun q : Later W.heap.size W => (q.cell (p := ⟨g, off + k * 6 + 3, none⟩) zm).trans m3
      have Lpa := fun q : Later W.heap.size W => (q.cell pz).trans pa
      have Lpb := fun q : Later W.heap.size W => (q.cell pz).trans pb
      have Lpc := fun q : Later W.heap.size W => (q.cell pz).trans pc
      have cj := fun V => rpcon_any x.p a V
      clear hx hlt hk hB m0 m1 m2 m3 m4 m5 pa pb pc
      cases hpr : pcon x.p a
      all_goals
        rw [hpr] at cj
        have CJ := Lib.hid cj
        have HPR := Lib.hid hpr
        clear cj hpr
        go_wp2_with fail
        clear hlt'
        refine region_later W.heap.size (by kernel_rfl) (by kernel_rfl) ?_
        repeat (go_big_quiet_step ((go_at_call 33; exact later_of (Nat.le_refl _) (CJ.out _))))
        refine wpQuiet_nil ?_
        intro q
        have hq := q.below
        generalize q.at = V at hq ⊢
        clear q Lm0 Lm1 Lm2 Lm3 Lpa Lpb Lpc
        have bV := HB.out.trans (hq.mono HB.out.size)
        have HXV := Lib.hid (HX.out.keep hq)
        have HqV := Lib.hid (HqW.out.keep hq)
        have zV := bV.size
        clear hq
      · clear hi1
        go_wp2
        go_roundw
        case rel => exact ⟨k + 1, HLT.out, by go_num, Lib.hid (fun j hj h => by
          rcases Nat.lt_or_eq_of_le (Nat.le_of_lt_succ hj) with e | e
          · exact hno.out j e h
          · subst e
            rw [el_of HXX.out]
            exact HPR.out), bV⟩
        case measure => simp [RowKit.intOf]; have := HLT.out; omega
      · have HO := Lib.hid (show atL l a = some x by
          have := atL_some (l := l) (a := a) HLT.out (by rw [el_of HXX.out]; exact HPR.out) (fun j hj => hno.out j hj (by have := HLT.out; omega))
          rw [this, el_of HXX.out])
        obtain ⟨m0, m1, m2, m3, m4, m5, zm⟩ := id HXV.out
        go_upto_region 5 with fail
        go_wp2_with (refine wpList_row rfl _ _ _ rfl (w.heap.size + 1) _ rfl rfl 53 _ (HqV.out) 6 size_rpiece rfl rfl rfl ?_; intro w9 h9 f9; have b9 : Below w.heap.size w w9 := (b1.trans (bV.mono b1.size)).trans (f9.below (fun b hb => by omega) (by have := b1.size; omega)); have q0 := cell_row (i := 0) h9; have q1 := cell_row (i := 1) h9; have q2 := cell_row (i := 2) h9; have q3 := cell_row (i := 3) h9; have q4 := cell_row (i := 4) h9; have q5 := cell_row (i := 5) h9; simp at q0 q1 q2 q3 q4 q5; clear f9)
        refine bodyPost_ret (v := .tuple #[.agg #[.int .u64 (u x.p.a.hi), .int .u64 (u x.p.a.lo), .bool x.p.a.v6, .int .i64 x.p.n, .int .i64 x.h, .bool x.r], .bool true]) (by simp [*, results, Try.results16, go_sem] <;> rfl) rfl ⟨by rw [HO.out]; rfl, b9⟩
    · obtain rfl : k = l.length := by omega
      have hlt' : decide ((l.length : Int) < (l.length : Int)) = false := by simp
      have HO := Lib.hid (atL_none (l := l) (a := a) fun j hj => hno.out j hj hj)
      clear hlt hk
      go_upto_region 6 with fail
      go_wp2_with (refine wpList_row rfl _ _ _ rfl (w.heap.size + 1) _ rfl rfl 53 _ (HqW.out) 6 size_rpiece rfl rfl rfl ?_; intro w9 h9 f9; have b9 : Below w.heap.size w w9 := (b1.trans (HB.out.mono b1.size)).trans (f9.below (fun b hb => by omega) (by have := b1.size; omega)); have q0 := cell_row (i := 0) h9; have q1 := cell_row (i := 1) h9; have q2 := cell_row (i := 2) h9; have q3 := cell_row (i := 3) h9; have q4 := cell_row (i := 4) h9; have q5 := cell_row (i := 5) h9; simp at q0 q1 q2 q3 q4 q5; clear f9)
      refine bodyPost_ret (v := .tuple #[.agg #[.int .u64 0, .int .u64 0, .bool false, .int .i64 0, .int .i64 0, .bool false], .bool false]) (by simp [*, results, Try.results16, go_sem] <;> rfl) rfl ⟨by rw [HO.out]; rfl, b9⟩

end Go.Proofs.Ytggceecolfebjaa
