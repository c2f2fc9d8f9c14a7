/-
  What Child, Parent, Sibling and Join of package prefix return. No condition.
-/
import Derived.Test.YtggceecolfebjaaPg
namespace Go.Proofs.Ytggceecolfebjaa
open Go.RowKit

theorem psane_bd {p : Pf} (h : psane p = true) : 0 ≤ p.n ∧ p.n ≤ wid p.a.v6 := by
  have e := (pfEq_iff _ _).1 h
  have e2 : clamp p.a.v6 p.n = p.n := congrArg Pf.n e
  have := wid_bd p.a.v6
  unfold clamp at e2
  omega

set_option maxHeartbeats 1000000 in
theorem pchild_any (p : Pf) (v : Int) (w : World) :
    Calls Try.prog 53 #[.agg #[.int .u64 (u p.a.hi), .int .u64 (u p.a.lo), .bool p.a.v6, .int .i64 p.n], .int .i64 v] w fun e w' => e = .returned (.tuple #[.agg #[.int .u64 (u (pchild p v).1.a.hi), .int .u64 (u (pchild p v).1.a.lo), .bool (pchild p v).1.a.v6, .int .i64 (pchild p v).1.n], .bool (pchild p v).2]) ∧ Below w.heap.size w w' := by
  cases hs : psane p
  · have hv : pchild p v = (nilP, false) := by unfold pchild; rw [hs]; rfl
    rw [hv]
    have Hs := Lib.hid hs
    have hs' : (!psane p) = true := by simp [hs]
    clear hv hs
    go_enter Try.func53, Try.ntmps53
    go_wp2_with fail
    generalize hW : World.alloc _ _ = W
    have hz : w.heap.size ≤ W.heap.size := by subst hW; go_size
    have hB : Below w.heap.size w W := by subst hW; go_grown
    obtain ⟨pa, pb, pc, pg, pd, pe, pf, ph, pz⟩ := cells4 (W := W) (b := w.heap.size) (Below.refl _ W) (by subst hW; go_size) (by subst hW; go_simp <;> rfl) (by subst hW; go_simp <;> rfl) (by subst hW; go_simp <;> rfl) (by subst hW; go_simp <;> rfl) (by subst hW; go_simp <;> rfl) (by subst hW; go_simp <;> rfl) (by subst hW; go_simp <;> rfl) (by subst hW; go_simp <;> rfl)
    obtain ⟨qa, qb, qc, qg, qd, qe, qf, qh, qz⟩ := cells4 (W := W) (b := w.heap.size + 1) (Below.refl _ W) (by subst hW; go_size) (by subst hW; go_simp <;> rfl) (by subst hW; go_simp <;> rfl) (by subst hW; go_simp <;> rfl) (by subst hW; go_simp <;> rfl) (by subst hW; go_simp <;> rfl) (by subst hW; go_simp <;> rfl) (by subst hW; go_simp <;> rfl) (by subst hW; go_simp <;> rfl)
    clear hW
    have Lpa := fun x : Later W.heap.size W => (x.cell pz).trans pa
    have Lpb := fun x : Later W.heap.size W => (x.cell pz).trans pb
    have Lpc := fun x : Later W.heap.size W => (x.cell pz).trans pc
    have Lpg := fun x : Later W.heap.size W => (x.cell pz).trans pg
    refine region_later W.heap.size (by kernel_rfl) (by kernel_rfl) ?_
    repeat (go_big_quiet_step (first | (go_at_call 43; exact later_of (Nat.le_refl _) (psane_any p _)) | (go_at_call 40; exact later_same (width_any _ _))))
    refine wpQuiet_nil ?_
    intro x
    have hx : Below w.heap.size w x.at := hB.trans (x.below.mono hz)
    clear Lpa Lpb Lpc Lpg
    obtain ⟨p'a, p'b, p'c, p'g, p'd, p'e, p'f, p'h, p'z⟩ := cells4 x.below pz pa pb pc pg pd pe pf ph
    clear pa pb pc pd pe pf pg ph pz
    obtain ⟨q'a, q'b, q'c, q'g, q'd, q'e, q'f, q'h, q'z⟩ := cells4 x.below qz qa qb qc qg qd qe qf qh
    clear qa qb qc qd qe qf qg qh qz
    generalize x.at = w1 at *
    clear x hB hz W
    go_wp2
    refine bodyPost_ret (v := .tuple #[.agg #[.int .u64 0, .int .u64 0, .bool false, .int .i64 0], .bool false]) (by simp [*, results, Try.results53, go_sem] <;> rfl) rfl ⟨rfl, ?_⟩
    go_grown
  · obtain ⟨b0, b1⟩ := psane_bd hs
    have hw := wid_bd p.a.v6
    have hs' : (!psane p) = false := by simp [hs]
    by_cases hn : p.n = wid p.a.v6
    · have hv : pchild p v = (nilP, false) := by unfold pchild; rw [hs, if_pos rfl, if_pos hn]
      rw [hv]
      have hn' : (p.n == wid p.a.v6) = true := by simp [hn]
      clear hv hs hn
      go_enter Try.func53, Try.ntmps53
      go_wp2_with fail
      generalize hW : World.alloc _ _ = W
      have hz : w.heap.size ≤ W.heap.size := by subst hW; go_size
      have hB : Below w.heap.size w W := by subst hW; go_grown
      obtain ⟨pa, pb, pc, pg, pd, pe, pf, ph, pz⟩ := cells4 (W := W) (b := w.heap.size) (Below.refl _ W) (by subst hW; go_size) (by subst hW; go_simp <;> rfl) (by subst hW; go_simp <;> rfl) (by subst hW; go_simp <;> rfl) (by subst hW; go_simp <;> rfl) (by subst hW; go_simp <;> rfl) (by subst hW; go_simp <;> rfl) (by subst hW; go_simp <;> rfl) (by subst hW; go_simp <;> rfl)
      obtain ⟨qa, qb, qc, qg, qd, qe, qf, qh, qz⟩ := cells4 (W := W) (b := w.heap.size + 1) (Below.refl _ W) (by subst hW; go_size) (by subst hW; go_simp <;> rfl) (by subst hW; go_simp <;> rfl) (by subst hW; go_simp <;> rfl) (by subst hW; go_simp <;> rfl) (by subst hW; go_simp <;> rfl) (by subst hW; go_simp <;> rfl) (by subst hW; go_simp <;> rfl) (by subst hW; go_simp <;> rfl)
      clear hW
      have Lpa := fun x : Later W.heap.size W => (x.cell pz).trans pa
      have Lpb := fun x : Later W.heap.size W => (x.cell pz).trans pb
      have Lpc := fun x : Later W.heap.size W => (x.cell pz).trans pc
      have Lpg := fun x : Later W.heap.size W => (x.cell pz).trans pg
      refine region_later W.heap.size (by kernel_rfl) (by kernel_rfl) ?_
      repeat (go_big_quiet_step (first | (go_at_call 43; exact later_of (Nat.le_refl _) (psane_any p _)) | (go_at_call 40; exact later_same (width_any _ _))))
      refine wpQuiet_nil ?_
      intro x
      have hx : Below w.heap.size w x.at := hB.trans (x.below.mono hz)
      clear Lpa Lpb Lpc Lpg
      obtain ⟨p'a, p'b, p'c, p'g, p'd, p'e, p'f, p'h, p'z⟩ := cells4 x.below pz pa pb pc pg pd pe pf ph
      clear pa pb pc pd pe pf pg ph pz
      obtain ⟨q'a, q'b, q'c, q'g, q'd, q'e, q'f, q'h, q'z⟩ := cells4 x.below qz qa qb qc qg qd qe qf qh
      clear qa qb qc qd qe qf qg qh qz
      generalize x.at = w1 at *
      clear x hB hz W
      go_wp2
      refine bodyPost_ret (v := .tuple #[.agg #[.int .u64 0, .int .u64 0, .bool false, .int .i64 0], .bool false]) (by simp [*, results, Try.results53, go_sem] <;> rfl) rfl ⟨rfl, ?_⟩
      go_grown
    · have hv : pchild p v = (⟨setv p.a p.n v, p.n + 1⟩, true) := by unfold pchild; rw [hs, if_pos rfl, if_neg hn]
      rw [hv]
      have hn' : (p.n == wid p.a.v6) = false := by simp [hn]
      clear hv hs hn
      go_enter Try.func53, Try.ntmps53
      go_wp2_with fail
      generalize hW : World.alloc _ _ = W
      have hz : w.heap.size ≤ W.heap.size := by subst hW; go_size
      have hB : Below w.heap.size w W := by subst hW; go_grown
      obtain ⟨pa, pb, pc, pg, pd, pe, pf, ph, pz⟩ := cells4 (W := W) (b := w.heap.size) (Below.refl _ W) (by subst hW; go_size) (by subst hW; go_simp <;> rfl) (by subst hW; go_simp <;> rfl) (by subst hW; go_simp <;> rfl) (by subst hW; go_simp <;> rfl) (by subst hW; go_simp <;> rfl) (by subst hW; go_simp <;> rfl) (by subst hW; go_simp <;> rfl) (by subst hW; go_simp <;> rfl)
      obtain ⟨qa, qb, qc, qg, qd, qe, qf, qh, qz⟩ := cells4 (W := W) (b := w.heap.size + 1) (Below.refl _ W) (by subst hW; go_size) (by subst hW; go_simp <;> rfl) (by subst hW; go_simp <;> rfl) (by subst hW; go_simp <;> rfl) (by subst hW; go_simp <;> rfl) (by subst hW; go_simp <;> rfl) (by subst hW; go_simp <;> rfl) (by subst hW; go_simp <;> rfl) (by subst hW; go_simp <;> rfl)
      clear hW
      have Lpa := fun x : Later W.heap.size W => (x.cell pz).trans pa
      have Lpb := fun x : Later W.heap.size W => (x.cell pz).trans pb
      have Lpc := fun x : Later W.heap.size W => (x.cell pz).trans pc
      have Lpg := fun x : Later W.heap.size W => (x.cell pz).trans pg
      refine region_later W.heap.size (by kernel_rfl) (by kernel_rfl) ?_
      repeat (go_big_quiet_step (first | (go_at_call 43; exact later_of (Nat.le_refl _) (psane_any p _)) | (go_at_call 40; exact later_same (width_any _ _))))
      refine wpQuiet_nil ?_
      intro x
      have hx : Below w.heap.size w x.at := hB.trans (x.below.mono hz)
      clear Lpa Lpb Lpc Lpg
      obtain ⟨p'a, p'b, p'c, p'g, p'd, p'e, p'f, p'h, p'z⟩ := cells4 x.below pz pa pb pc pg pd pe pf ph
      clear pa pb pc pd pe pf pg ph pz
      obtain ⟨q'a, q'b, q'c, q'g, q'd, q'e, q'f, q'h, q'z⟩ := cells4 x.below qz qa qb qc qg qd qe qf qh
      clear qa qb qc qd qe qf qg qh qz
      generalize x.at = w1 at *
      clear x hB hz W
      go_wp2_with fail
      obtain ⟨W, rfl⟩ : ∃ W, W = w1 := ⟨_, rfl⟩
      have hB := hx
      have hz := hx.size
      clear hx
      have Lp'a := fun x : Later W.heap.size W => (x.cell p'z).trans p'a
      have Lp'b := fun x : Later W.heap.size W => (x.cell p'z).trans p'b
      have Lp'c := fun x : Later W.heap.size W => (x.cell p'z).trans p'c
      have Lp'g := fun x : Later W.heap.size W => (x.cell p'z).trans p'g
      refine region_tail 10 W.heap.size (by kernel_rfl) (by kernel_rfl) ?_
      simp only [List.take_succ_cons, List.take_zero, List.drop_succ_cons, List.drop_zero]
      repeat (go_big_quiet_step ((go_at_call 81; exact later_of (Nat.le_refl _) (set_any _ _ _ _))))
      refine wpQuiet_nil ?_
      intro x
      have hx : Below w.heap.size w x.at := hB.trans (x.below.mono hz)
      clear Lp'a Lp'b Lp'c Lp'g
      obtain ⟨pa, pb, pc, pg, pd, pe, pf, ph, pz⟩ := cells4 x.below p'z p'a p'b p'c p'g p'd p'e p'f p'h
      clear p'a p'b p'c p'd p'e p'f p'g p'h p'z
      obtain ⟨qa, qb, qc, qg, qd, qe, qf, qh, qz⟩ := cells4 x.below q'z q'a q'b q'c q'g q'd q'e q'f q'h
      clear q'a q'b q'c q'd q'e q'f q'g q'h q'z
      generalize x.at = w2 at *
      clear x hB hz W
      go_wp2
      refine bodyPost_ret (v := .tuple #[.agg #[.int .u64 (u (Pf.mk (setv p.a p.n v) (p.n + 1)).a.hi), .int .u64 (u (Pf.mk (setv p.a p.n v) (p.n + 1)).a.lo), .bool (Pf.mk (setv p.a p.n v) (p.n + 1)).a.v6, .int .i64 (Pf.mk (setv p.a p.n v) (p.n + 1)).n], .bool true]) (by simp [*, results, Try.results53, go_sem] <;> rfl) rfl ⟨rfl, ?_⟩
      go_grown

set_option maxHeartbeats 1000000 in
theorem pparent_any (p : Pf) (w : World) :
    Calls Try.prog 61 #[.agg #[.int .u64 (u p.a.hi), .int .u64 (u p.a.lo), .bool p.a.v6, .int .i64 p.n]] w fun e w' => e = .returned (.tuple #[.agg #[.int .u64 (u (pparent p).1.a.hi), .int .u64 (u (pparent p).1.a.lo), .bool (pparent p).1.a.v6, .int .i64 (pparent p).1.n], .bool (pparent p).2]) ∧ Below w.heap.size w w' := by
  cases hs : psane p
  · have hv : pparent p = (nilP, false) := by unfold pparent; rw [hs]; rfl
    rw [hv]
    have Hs := Lib.hid hs
    clear hv hs
    go_enter Try.func61, Try.ntmps61
    go_wp2_with fail
    refine (psane_any p _).mono ?_
    rintro e w1 ⟨rfl, hw1⟩
    have zw1 := hw1.size
    have bw1 := below_of (w := w) (by go_grown) hw1
    try simp at zw1
    rw [Hs.out]
    obtain ⟨pa, pb, pc, pg, pd, pe, pf, ph, pz⟩ := cells4 (b := w.heap.size) hw1 (by go_size) (by go_simp <;> rfl) (by go_simp <;> rfl) (by go_simp <;> rfl) (by go_simp <;> rfl) (by go_simp <;> rfl) (by go_simp <;> rfl) (by go_simp <;> rfl) (by go_simp <;> rfl)
    obtain ⟨qa, qb, qc, qg, qd, qe, qf, qh, qz⟩ := cells4 (b := w.heap.size + 1) hw1 (by go_size) (by go_simp <;> rfl) (by go_simp <;> rfl) (by go_simp <;> rfl) (by go_simp <;> rfl) (by go_simp <;> rfl) (by go_simp <;> rfl) (by go_simp <;> rfl) (by go_simp <;> rfl)
    clear hw1
    go_wp2
    refine bodyPost_ret (v := .tuple #[.agg #[.int .u64 0, .int .u64 0, .bool false, .int .i64 0], .bool false]) (by simp [*, results, Try.results61, go_sem] <;> rfl) rfl ⟨rfl, ?_⟩
    go_grown
  · obtain ⟨b0, b1⟩ := psane_bd hs
    have hw := wid_bd p.a.v6
    have Hs := Lib.hid hs
    by_cases hn : p.n = 0
    · have hv : pparent p = (nilP, false) := by unfold pparent; rw [hs, if_pos rfl, if_pos hn]
      rw [hv]
      have hn' : (p.n == 0) = true := by simp [hn]
      clear hv hs hn
      go_enter Try.func61, Try.ntmps61
      go_wp2_with fail
      refine (psane_any p _).mono ?_
      rintro e w1 ⟨rfl, hw1⟩
      have zw1 := hw1.size
      have bw1 := below_of (w := w) (by go_grown) hw1
      try simp at zw1
      rw [Hs.out]
      obtain ⟨pa, pb, pc, pg, pd, pe, pf, ph, pz⟩ := cells4 (b := w.heap.size) hw1 (by go_size) (by go_simp <;> rfl) (by go_simp <;> rfl) (by go_simp <;> rfl) (by go_simp <;> rfl) (by go_simp <;> rfl) (by go_simp <;> rfl) (by go_simp <;> rfl) (by go_simp <;> rfl)
      obtain ⟨qa, qb, qc, qg, qd, qe, qf, qh, qz⟩ := cells4 (b := w.heap.size + 1) hw1 (by go_size) (by go_simp <;> rfl) (by go_simp <;> rfl) (by go_simp <;> rfl) (by go_simp <;> rfl) (by go_simp <;> rfl) (by go_simp <;> rfl) (by go_simp <;> rfl) (by go_simp <;> rfl)
      clear hw1
      go_wp2
      refine bodyPost_ret (v := .tuple #[.agg #[.int .u64 0, .int .u64 0, .bool false, .int .i64 0], .bool false]) (by simp [*, results, Try.results61, go_sem] <;> rfl) rfl ⟨rfl, ?_⟩
      go_grown
    · have hv : pparent p = (pof p.a (p.n - 1), true) := by unfold pparent; rw [hs, if_pos rfl, if_neg hn]
      rw [hv]
      have hn' : (p.n == 0) = false := by simp [hn]
      clear hv hs hn
      go_enter Try.func61, Try.ntmps61
      go_wp2_with fail
      refine (psane_any p _).mono ?_
      rintro e w1 ⟨rfl, hw1⟩
      have zw1 := hw1.size
      have bw1 := below_of (w := w) (by go_grown) hw1
      try simp at zw1
      rw [Hs.out]
      obtain ⟨pa, pb, pc, pg, pd, pe, pf, ph, pz⟩ := cells4 (b := w.heap.size) hw1 (by go_size) (by go_simp <;> rfl) (by go_simp <;> rfl) (by go_simp <;> rfl) (by go_simp <;> rfl) (by go_simp <;> rfl) (by go_simp <;> rfl) (by go_simp <;> rfl) (by go_simp <;> rfl)
      obtain ⟨qa, qb, qc, qg, qd, qe, qf, qh, qz⟩ := cells4 (b := w.heap.size + 1) hw1 (by go_size) (by go_simp <;> rfl) (by go_simp <;> rfl) (by go_simp <;> rfl) (by go_simp <;> rfl) (by go_simp <;> rfl) (by go_simp <;> rfl) (by go_simp <;> rfl) (by go_simp <;> rfl)
      clear hw1
      go_wp2_with fail
      refine (pof_any p.a (p.n - 1) _).mono ?_
      rintro e w2 ⟨rfl, hw2⟩
      have zw2 := hw2.size
      have bw2 := below_of (w := w) (by go_grown) hw2
      try simp at zw2
      obtain ⟨q'a, q'b, q'c, q'g, q'd, q'e, q'f, q'h, q'z⟩ := cells4 (b := w.heap.size + 1) hw2 (by go_size) (by go_simp <;> rfl) (by go_simp <;> rfl) (by go_simp <;> rfl) (by go_simp <;> rfl) (by go_simp <;> rfl) (by go_simp <;> rfl) (by go_simp <;> rfl) (by go_simp <;> rfl)
      clear hw2
      go_wp2
      refine bodyPost_ret (v := .tuple #[.agg #[.int .u64 (u (pof p.a (p.n - 1)).a.hi), .int .u64 (u (pof p.a (p.n - 1)).a.lo), .bool (pof p.a (p.n - 1)).a.v6, .int .i64 (pof p.a (p.n - 1)).n], .bool true]) (by simp [*, results, Try.results61, go_sem] <;> rfl) rfl ⟨rfl, ?_⟩
      go_grown

set_option maxHeartbeats 1000000 in
theorem psib_any (p : Pf) (w : World) :
    Calls Try.prog 60 #[.agg #[.int .u64 (u p.a.hi), .int .u64 (u p.a.lo), .bool p.a.v6, .int .i64 p.n]] w fun e w' => e = .returned (.tuple #[.agg #[.int .u64 (u (psib p).1.a.hi), .int .u64 (u (psib p).1.a.lo), .bool (psib p).1.a.v6, .int .i64 (psib p).1.n], .bool (psib p).2]) ∧ Below w.heap.size w w' := by
  cases hs : (pparent p).2
  · have hv : psib p = (nilP, false) := by unfold psib; rw [hs]; rfl
    rw [hv]
    have Hs := Lib.hid hs
    clear hv hs
    go_enter Try.func60, Try.ntmps60
    go_wp2_with fail
    refine (pparent_any p _).mono ?_
    rintro e w1 ⟨rfl, hw1⟩
    have zw1 := hw1.size
    have bw1 := below_of (w := w) (by go_grown) hw1
    try simp at zw1
    rw [Hs.out]
    obtain ⟨pa, pb, pc, pg, pd, pe, pf, ph, pz⟩ := cells4 (b := w.heap.size) hw1 (by go_size) (by go_simp <;> rfl) (by go_simp <;> rfl) (by go_simp <;> rfl) (by go_simp <;> rfl) (by go_simp <;> rfl) (by go_simp <;> rfl) (by go_simp <;> rfl) (by go_simp <;> rfl)
    obtain ⟨qa, qb, qc, qg, qd, qe, qf, qh, qz⟩ := cells4 (b := w.heap.size + 1) hw1 (by go_size) (by go_simp <;> rfl) (by go_simp <;> rfl) (by go_simp <;> rfl) (by go_simp <;> rfl) (by go_simp <;> rfl) (by go_simp <;> rfl) (by go_simp <;> rfl) (by go_simp <;> rfl)
    clear hw1
    go_wp2
    refine bodyPost_ret (v := .tuple #[.agg #[.int .u64 0, .int .u64 0, .bool false, .int .i64 0], .bool false]) (by simp [*, results, Try.results60, go_sem] <;> rfl) rfl ⟨rfl, ?_⟩
    go_grown
  · have hv : psib p = pchild (pparent p).1 (1 - bitv p.a (pparent p).1.n) := by unfold psib; rw [hs]; rfl
    rw [hv]
    have Hs := Lib.hid hs
    have hbb : 0 ≤ bitv p.a (pparent p).1.n ∧ bitv p.a (pparent p).1.n ≤ 1 := by
      unfold bitv
      split
      · exact u_bit _
      · omega
    clear hv hs
    go_enter Try.func60, Try.ntmps60
    go_wp2_with fail
    refine (pparent_any p _).mono ?_
    rintro e w1 ⟨rfl, hw1⟩
    have zw1 := hw1.size
    have bw1 := below_of (w := w) (by go_grown) hw1
    try simp at zw1
    rw [Hs.out]
    obtain ⟨pa, pb, pc, pg, pd, pe, pf, ph, pz⟩ := cells4 (b := w.heap.size) hw1 (by go_size) (by go_simp <;> rfl) (by go_simp <;> rfl) (by go_simp <;> rfl) (by go_simp <;> rfl) (by go_simp <;> rfl) (by go_simp <;> rfl) (by go_simp <;> rfl) (by go_simp <;> rfl)
    obtain ⟨qa, qb, qc, qg, qd, qe, qf, qh, qz⟩ := cells4 (b := w.heap.size + 1) hw1 (by go_size) (by go_simp <;> rfl) (by go_simp <;> rfl) (by go_simp <;> rfl) (by go_simp <;> rfl) (by go_simp <;> rfl) (by go_simp <;> rfl) (by go_simp <;> rfl) (by go_simp <;> rfl)
    clear hw1
    go_wp2_with fail
    generalize hW : World.alloc _ _ = W
    have hz : w.heap.size ≤ W.heap.size := by subst hW; go_size
    have hB : Below w.heap.size w W := by subst hW; go_grown
    obtain ⟨p'a, p'b, p'c, p'g, p'd, p'e, p'f, p'h, p'z⟩ := cells4 (W := W) (b := w.heap.size) (Below.refl _ W) (by subst hW; go_size) (by subst hW; go_simp <;> rfl) (by subst hW; go_simp <;> rfl) (by subst hW; go_simp <;> rfl) (by subst hW; go_simp <;> rfl) (by subst hW; go_simp <;> rfl) (by subst hW; go_simp <;> rfl) (by subst hW; go_simp <;> rfl) (by subst hW; go_simp <;> rfl)
    obtain ⟨q'a, q'b, q'c, q'g, q'd, q'e, q'f, q'h, q'z⟩ := cells4 (W := W) (b := w.heap.size + 1) (Below.refl _ W) (by subst hW; go_size) (by subst hW; go_simp <;> rfl) (by subst hW; go_simp <;> rfl) (by subst hW; go_simp <;> rfl) (by subst hW; go_simp <;> rfl) (by subst hW; go_simp <;> rfl) (by subst hW; go_simp <;> rfl) (by subst hW; go_simp <;> rfl) (by subst hW; go_simp <;> rfl)
    obtain ⟨ra, rb, rc, rg, rd, re, rf, rh, rz⟩ := cells4 (W := W) (b := w1.heap.size) (Below.refl _ W) (by subst hW; go_size) (by subst hW; go_simp <;> rfl) (by subst hW; go_simp <;> rfl) (by subst hW; go_simp <;> rfl) (by subst hW; go_simp <;> rfl) (by subst hW; go_simp <;> rfl) (by subst hW; go_simp <;> rfl) (by subst hW; go_simp <;> rfl) (by subst hW; go_simp <;> rfl)
    clear hW pa pb pc pd pe pf pg ph pz qa qb qc qd qe qf qg qh qz
    have Lp'a := fun x : Later W.heap.size W => (x.cell p'z).trans p'a
    have Lp'b := fun x : Later W.heap.size W => (x.cell p'z).trans p'b
    have Lp'c := fun x : Later W.heap.size W => (x.cell p'z).trans p'c
    have Lp'g := fun x : Later W.heap.size W => (x.cell p'z).trans p'g
    have Lra := fun x : Later W.heap.size W => (x.cell rz).trans ra
    have Lrb := fun x : Later W.heap.size W => (x.cell rz).trans rb
    have Lrc := fun x : Later W.heap.size W => (x.cell rz).trans rc
    have Lrg := fun x : Later W.heap.size W => (x.cell rz).trans rg
    refine region_tail 10 W.heap.size (by kernel_rfl) (by kernel_rfl) ?_
    simp only [List.take_succ_cons, List.take_zero, List.drop_succ_cons, List.drop_zero]
    repeat (go_big_quiet_step (first | (go_at_call 91; exact later_of (Nat.le_refl _) (bit_any _ _ _)) | (go_at_call 53; exact later_of (Nat.le_refl _) (pchild_any (pparent p).1 _ _))))
    refine wpQuiet_nil ?_
    intro x
    have hx : Below w.heap.size w x.at := hB.trans (x.below.mono hz)
    clear Lp'a Lp'b Lp'c Lp'g Lra Lrb Lrc Lrg
    obtain ⟨qa, qb, qc, qg, qd, qe, qf, qh, qz⟩ := cells4 x.below q'z q'a q'b q'c q'g q'd q'e q'f q'h
    clear q'a q'b q'c q'd q'e q'f q'g q'h q'z
    clear p'a p'b p'c p'd p'e p'f p'g p'h p'z ra rb rc rd re rf rg rh rz
    generalize x.at = w2 at *
    clear x hB hz W
    go_wp2
    refine bodyPost_ret (v := .tuple #[.agg #[.int .u64 (u (pchild (pparent p).1 (1 - bitv p.a (pparent p).1.n)).1.a.hi), .int .u64 (u (pchild (pparent p).1 (1 - bitv p.a (pparent p).1.n)).1.a.lo), .bool (pchild (pparent p).1 (1 - bitv p.a (pparent p).1.n)).1.a.v6, .int .i64 (pchild (pparent p).1 (1 - bitv p.a (pparent p).1.n)).1.n], .bool (pchild (pparent p).1 (1 - bitv p.a (pparent p).1.n)).2]) (by simp [*, results, Try.results60, go_sem] <;> rfl) rfl ⟨rfl, ?_⟩
    go_grown

end Go.Proofs.Ytggceecolfebjaa
