/-
  What Child, Parent, Sibling and Join of package prefix return. No condition.
-/
import Derived.Test.YtcbfppangiopeaaGreatPg
namespace Go.Proofs.YtcbfppangiopeaaGreat
open Go.RowKit

theorem psane_bd {p : Pf} (h : psane p = true) : 0 ≤ p.n ∧ p.n ≤ wid p.a.v6 := by
  have e := (pfEq_iff _ _).1 h
  have e2 : clamp p.a.v6 p.n = p.n := congrArg Pf.n e
  have := wid_bd p.a.v6
  unfold clamp at e2
  omega

set_option maxHeartbeats 1000000 in
theorem pchild_any (p : Pf) (v : Int) (w : World) :
    Calls Tryz.prog 91 #[.agg #[.int .u64 (u p.a.hi), .int .u64 (u p.a.lo), .bool p.a.v6, .int .i64 p.n], .int .i64 v] w fun e w' => e = .returned (.tuple #[.agg #[.int .u64 (u (pchild p v).1.a.hi), .int .u64 (u (pchild p v).1.a.lo), .bool (pchild p v).1.a.v6, .int .i64 (pchild p v).1.n], .bool (pchild p v).2]) ∧ Below w.heap.size w w' := by
  cases hs : psane p
  · have hv : pchild p v = (nilP, false) := by unfold pchild; rw [hs]; rfl
    rw [hv]
    have Hs := Lib.hid hs
    have hs' : (!psane p) = true := by simp [hs]
    clear hv hs
    go_enter Tryz.func91, Tryz.ntmps91
    go_wp2_with fail
    generalize hW : World.alloc _ _ = W
    have hz : w.heap.size ≤ W.heap.size := by subst hW; go_size
    have hB : Below w.heap.size w W := by subst hW; go_grown
    obtain ⟨pa, pb, pc, pg, pd, pe, pf, ph, pz⟩ := cells4 (W := W) (b := w.heap.size) (Below.refl _ W) (by subst hW; go_size) (by subst hW; go_simp <;> rfl) (by subst hW; go_simp <;> rfl) (by subst hW; go_simp <;> rfl) (by subst hW; go_simp <;> rfl) (by subst hW; go_simp <;> rfl) (by subst hW; go_simp <;> rfl) (by subst hW; go_simp <;> rfl) (by subst hW; go_simp <;> rfl)
    obtain ⟨qa, qb, qc, qg, qd, qe, qf, qh, qz⟩ := cells4 (W := W) (b := w.heap.size + 1) (Below.refl _ W) (by subst hW; go_size) (by subst hW; go_simp <;> rfl) (by subst hW; go_simp <;> rfl) (by subst hW; go_simp <;> rfl) (by subst hW; go_simp <;> rfl) (by subst hW; go_simp <;> rfl) (by subst hW; go_simp <;> rfl) (by subst hW; go_simp <;> rfl) (by subst hW; go_simp <;> rfl)
    clear hW
    have Lpa := fun x : Later W.heap.size W => (x.cell pz).trans pa
    have Lpb := fun x : Later W.heap.size W => (x.cell pz).trans pb
    have Lpc := fun x : Later W.heap.size W => (x.cell pz).trans pc
    have Lpg := fun x : Later W.heap.size W => (x.cell pz).trans pg
    refine region_later W.heap.size (by kernel_rfl) (by kernel_rfl) ?_
    repeat (go_big_quiet_step (first | (go_at_call 34; exact later_of (Nat.le_refl _) (psane_any p _)) | (go_at_call 39; exact later_same (width_any _ _))))
    refine wpQuiet_nil ?_
    intro x
    have hx : Below w.heap.size w x.at := hB.trans (x.below.mono hz)
    clear Lpa Lpb Lpc Lpg
    obtain ⟨p'a, p'b, p'c, p'g, p'd, p'e, p'f, p'h, p'z⟩ := cells4 x.below pz pa pb pc pg pd pe pf ph
    clear pa pb pc pd pe pf pg ph pz
    obtain ⟨q'a, q'b, q'c, q'g, q'd, q'e, q'f, q'h, q'z⟩ := cells4 x.below qz qa qb qc qg qd qe qf qh
    clear qa qb qc qd qe qf qg qh qz
    generalize x.at = w1 at *
    clear x hB hz W
    go_wp2
    refine bodyPost_ret (v := .tuple #[.agg #[.int .u64 0, .int .u64 0, .bool false, .int .i64 0], .bool false]) (by simp [*, results, Tryz.results91, go_sem] <;> rfl) rfl ⟨rfl, ?_⟩
    go_grown
  · obtain ⟨b0, b1⟩ := psane_bd hs
    have hw := wid_bd p.a.v6
    have hs' : (!psane p) = false := by simp [hs]
    by_cases hn : p.n = wid p.a.v6
    · have hv : pchild p v = (nilP, false) := by unfold pchild; rw [hs, if_pos rfl, if_pos hn]
      rw [hv]
      have hn' : (p.n == wid p.a.v6) = true := by simp [hn]
      clear hv hs hn
      go_enter Tryz.func91, Tryz.ntmps91
      go_wp2_with fail
      generalize hW : World.alloc _ _ = W
      have hz : w.heap.size ≤ W.heap.size := by subst hW; go_size
      have hB : Below w.heap.size w W := by subst hW; go_grown
      obtain ⟨pa, pb, pc, pg, pd, pe, pf, ph, pz⟩ := cells4 (W := W) (b := w.heap.size) (Below.refl _ W) (by subst hW; go_size) (by subst hW; go_simp <;> rfl) (by subst hW; go_simp <;> rfl) (by subst hW; go_simp <;> rfl) (by subst hW; go_simp <;> rfl) (by subst hW; go_simp <;> rfl) (by subst hW; go_simp <;> rfl) (by subst hW; go_simp <;> rfl) (by subst hW; go_simp <;> rfl)
      obtain ⟨qa, qb, qc, qg, qd, qe, qf, qh, qz⟩ := cells4 (W := W) (b := w.heap.size + 1) (Below.refl _ W) (by subst hW; go_size) (by subst hW; go_simp <;> rfl) (by subst hW; go_simp <;> rfl) (by subst hW; go_simp <;> rfl) (by subst hW; go_simp <;> rfl) (by subst hW; go_simp <;> rfl) (by subst hW; go_simp <;> rfl) (by subst hW; go_simp <;> rfl) (by subst hW; go_simp <;> rfl)
      clear hW
      have Lpa := fun x : Later W.heap.size W => (x.cell pz).trans pa
      have Lpb := fun x : Later W.heap.size W => (x.cell pz).trans pb
      have Lpc := fun x : Later W.heap.size W => (x.cell pz).trans pc
      have Lpg := fun x : Later W.heap.size W => (x.cell pz).trans pg
      refine region_later W.heap.size (by kernel_rfl) (by kernel_rfl) ?_
      repeat (go_big_quiet_step (first | (go_at_call 34; exact later_of (Nat.le_refl _) (psane_any p _)) | (go_at_call 39; exact later_same (width_any _ _))))
      refine wpQuiet_nil ?_
      intro x
      have hx : Below w.heap.size w x.at := hB.trans (x.below.mono hz)
      clear Lpa Lpb Lpc Lpg
      obtain ⟨p'a, p'b, p'c, p'g, p'd, p'e, p'f, p'h, p'z⟩ := cells4 x.below pz pa pb pc pg pd pe pf ph
      clear pa pb pc pd pe pf pg ph pz
      obtain ⟨q'a, q'b, q'c, q'g, q'd, q'e, q'f, q'h, q'z⟩ := cells4 x.below qz qa qb qc qg qd qe qf qh
      clear qa qb qc qd qe qf qg qh qz
      generalize x.at = w1 at *
      clear x hB hz W
      go_wp2
      refine bodyPost_ret (v := .tuple #[.agg #[.int .u64 0, .int .u64 0, .bool false, .int .i64 0], .bool false]) (by simp [*, results, Tryz.results91, go_sem] <;> rfl) rfl ⟨rfl, ?_⟩
      go_grown
    · have hv : pchild p v = (⟨setv p.a p.n v, p.n + 1⟩, true) := by unfold pchild; rw [hs, if_pos rfl, if_neg hn]
      rw [hv]
      have hn' : (p.n == wid p.a.v6) = false := by simp [hn]
      clear hv hs hn
      go_enter Tryz.func91, Tryz.ntmps91
      go_wp2_with fail
      generalize hW : World.alloc _ _ = W
      have hz : w.heap.size ≤ W.heap.size := by subst hW; go_size
      have hB : Below w.heap.size w W := by subst hW; go_grown
      obtain ⟨pa, pb, pc, pg, pd, pe, pf, ph, pz⟩ := cells4 (W := W) (b := w.heap.size) (Below.refl _ W) (by subst hW; go_size) (by subst hW; go_simp <;> rfl) (by subst hW; go_simp <;> rfl) (by subst hW; go_simp <;> rfl) (by subst hW; go_simp <;> rfl) (by subst hW; go_simp <;> rfl) (by subst hW; go_simp <;> rfl) (by subst hW; go_simp <;> rfl) (by subst hW; go_simp <;> rfl)
      obtain ⟨qa, qb, qc, qg, qd, qe, qf, qh, qz⟩ := cells4 (W := W) (b := w.heap.size + 1) (Below.refl _ W) (by subst hW; go_size) (by subst hW; go_simp <;> rfl) (by subst hW; go_simp <;> rfl) (by subst hW; go_simp <;> rfl) (by subst hW; go_simp <;> rfl) (by subst hW; go_simp <;> rfl) (by subst hW; go_simp <;> rfl) (by subst hW; go_simp <;> rfl) (by subst hW; go_simp <;> rfl)
      clear hW
      have Lpa := fun x : Later W.heap.size W => (x.cell pz).trans pa
      have Lpb := fun x : Later W.heap.size W => (x.cell pz).trans pb
      have Lpc := fun x : Later W.heap.size W => (x.cell pz).trans pc
      have Lpg := fun x : Later W.heap.size W => (x.cell pz).trans pg
      refine region_later W.heap.size (by kernel_rfl) (by kernel_rfl) ?_
      repeat (go_big_quiet_step (first | (go_at_call 34; exact later_of (Nat.le_refl _) (psane_any p _)) | (go_at_call 39; exact later_same (width_any _ _))))
      refine wpQuiet_nil ?_
      intro x
      have hx : Below w.heap.size w x.at := hB.trans (x.below.mono hz)
      clear Lpa Lpb Lpc Lpg
      obtain ⟨p'a, p'b, p'c, p'g, p'd, p'e, p'f, p'h, p'z⟩ := cells4 x.below pz pa pb pc pg pd pe pf ph
      clear pa pb pc pd pe pf pg ph pz
      obtain ⟨q'a, q'b, q'c, q'g, q'd, q'e, q'f, q'h, q'z⟩ := cells4 x.below qz qa qb qc qg qd qe qf qh
      clear qa qb qc qd qe qf qg qh qz
      generalize x.at = w1 at *
      clear x hB hz W
      go_wp2_with fail
      obtain ⟨W, rfl⟩ : ∃ W, W = w1 := ⟨_, rfl⟩
      have hB := hx
      have hz := hx.size
      clear hx
      have Lp'a := fun x : Later W.heap.size W => (x.cell p'z).trans p'a
      have Lp'b := fun x : Later W.heap.size W => (x.cell p'z).trans p'b
      have Lp'c := fun x : Later W.heap.size W => (x.cell p'z).trans p'c
      have Lp'g := fun x : Later W.heap.size W => (x.cell p'z).trans p'g
      refine region_tail 10 W.heap.size (by kernel_rfl) (by kernel_rfl) ?_
      simp only [List.take_succ_cons, List.take_zero, List.drop_succ_cons, List.drop_zero]
      repeat (go_big_quiet_step ((go_at_call 99; exact later_of (Nat.le_refl _) (set_any _ _ _ _))))
      refine wpQuiet_nil ?_
      intro x
      have hx : Below w.heap.size w x.at := hB.trans (x.below.mono hz)
      clear Lp'a Lp'b Lp'c Lp'g
      obtain ⟨pa, pb, pc, pg, pd, pe, pf, ph, pz⟩ := cells4 x.below p'z p'a p'b p'c p'g p'd p'e p'f p'h
      clear p'a p'b p'c p'd p'e p'f p'g p'h p'z
      obtain ⟨qa, qb, qc, qg, qd, qe, qf, qh, qz⟩ := cells4 x.below q'z q'a q'b q'c q'g q'd q'e q'f q'h
      clear q'a q'b q'c q'd q'e q'f q'g q'h q'z
      generalize x.at = w2 at *
      clear x hB hz W
      go_wp2
      refine bodyPost_ret (v := .tuple #[.agg #[.int .u64 (u (Pf.mk (setv p.a p.n v) (p.n + 1)).a.hi), .int .u64 (u (Pf.mk (setv p.a p.n v) (p.n + 1)).a.lo), .bool (Pf.mk (setv p.a p.n v) (p.n + 1)).a.v6, .int .i64 (Pf.mk (setv p.a p.n v) (p.n + 1)).n], .bool true]) (by simp [*, results, Tryz.results91, go_sem] <;> rfl) rfl ⟨rfl, ?_⟩
      go_grown

end Go.Proofs.YtcbfppangiopeaaGreat
