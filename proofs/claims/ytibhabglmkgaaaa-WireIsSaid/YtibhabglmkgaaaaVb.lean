/-
  What need, getHead and getDigits of package wire return. Condition: the bytes lie where the argument says.
-/
import Derived.Test.YtibhabglmkgaaaaVa
import Derived.Test.YtibhabglmkgaaaaPg
import Derived.Deep.RegionHeld3
namespace Go.Proofs.Ytibhabglmkgaaaa
open Go.RowKit

theorem need_le (v : Bool) (n : Int) (h0 : 0 ≤ n) (h1 : n ≤ wid v) : need n ≤ nb v ∧ ((need n : Nat) : Int) = (n + 7) / 8 := by
  unfold need
  cases v <;> simp [wid, nb] at * <;> omega
theorem need_any (n : Int) (h0 : 0 ≤ n) (h1 : n ≤ 128) (w : World) :
    Calls Try.prog 43 #[.int .i64 n] w fun e w' => e = .returned (.int .i64 (need n)) ∧ w = w' := by
  have hn : ((need n : Nat) : Int) = (n + 8 - 1) / 8 := by unfold need; omega
  have Hn := Lib.hid hn
  clear hn
  go_enter Try.func43, Try.ntmps43
  go_wp2
  go_ret
  exact ⟨ret_int Hn.out.symm, rfl⟩

set_option maxHeartbeats 1000000 in
theorem getHead_bad (A : Option Addr) (c : Nat) (l : List Int) (w : World) (h : Rd w A c l) (he : headE l ≠ 0) :
    Calls Try.prog 28 #[.slice A l.length c] w fun e w' => e = .returned (.tuple #[.agg #[.bool false, .int .i64 0], .int .i64 0, .int .i64 (headE l)]) ∧ Below w.heap.size w w' := by
  by_cases h2 : l.length < 2
  · have e6 := Lib.hid (show headE l = 6 by unfold headE; rw [if_pos h2])
    have t1 : decide ((l.length : Int) < 2) = true := by simp; omega
    clear h he h2
    go_enter Try.func28, Try.ntmps28
    go_wp2
    rw [e6.out]
    refine bodyPost_ret (v := .tuple #[.agg #[.bool false, .int .i64 0], .int .i64 0, .int .i64 6]) (by simp [*, results, Try.results28, go_sem] <;> rfl) rfl ⟨rfl, ?_⟩
    go_grown
  · obtain ⟨g, off, rfl, hg, hc⟩ := h.at_ (by omega)
    obtain ⟨b0, b1⟩ := at0_bd h.2.2.1 0
    obtain ⟨d0, d1⟩ := at0_bd h.2.2.1 1
    have hc0 := hc 0 (by omega)
    have hc1 := hc 1 (by omega)
    rw [Nat.add_zero] at hc0
    have t1 : decide ((l.length : Int) < 2) = false := by simp; omega
    have i0 : 0 < l.length := by omega
    have i1 : (1 : Int) < (l.length : Int) := by omega
    by_cases h5 : at0 l 0 ≠ 4 ∧ at0 l 0 ≠ 6
    · have e5 := Lib.hid (show headE l = 5 by unfold headE; rw [if_neg h2, if_pos h5])
      have t2 : (at0 l 0 != 4) = true := by simp [h5.1]
      have t3 : (at0 l 0 != 6) = true := by simp [h5.2]
      clear h he h2 hc h5
      go_enter Try.func28, Try.ntmps28
      go_wp2
      rw [e5.out]
      refine bodyPost_ret (v := .tuple #[.agg #[.bool false, .int .i64 0], .int .i64 0, .int .i64 5]) (by simp [*, results, Try.results28, go_sem] <;> rfl) rfl ⟨rfl, ?_⟩
      go_grown
    · by_cases h1 : wid (at0 l 0 == 6) < at0 l 1
      · have e1 := Lib.hid (show headE l = 1 by unfold headE; rw [if_neg h2, if_neg h5, if_pos h1])
        have t4 : decide (wid (at0 l 0 == 6) < at0 l 1) = true := by simp [h1]
        clear h he h2 hc h1
        rw [e1.out]
        clear e1
        rcases (show at0 l 0 = 4 ∨ at0 l 0 = 6 by omega) with h6 | h6
        all_goals
          rw [h6] at t4 hc0
          try rw [h6]
          have w4 : ((4 : Int) == 6) = false := rfl
          have w6 : ((6 : Int) == 6) = true := rfl
          first | rw [w4] at t4 | rw [w6] at t4
          try rw [w4]
          try rw [w6]
          clear w4 w6
          clear h5 b0 b1 h6
        · go_enter Try.func28, Try.ntmps28
          go_wp2_with fail
          go_region_held3 (fun w' => w'.cell? ⟨g, off, none⟩ = some (.int .u8 4) ∧ w'.cell? ⟨g, off + 1, none⟩ = some (.int .u8 (at0 l 1))) (go_keep) (fail)
          go_wp2_with fail
          generalize hW : World.drew _ = W
          have hz : w.heap.size ≤ W.heap.size := by subst hW; go_size
          have hB : Below w.heap.size w W := by subst hW; go_grown
          obtain ⟨pa, pb, pc, pd, pz⟩ := cells2 (W := W) (b := w.heap.size) (Below.refl _ W) (by subst hW; go_size) (by subst hW; go_simp <;> rfl) (by subst hW; go_simp <;> rfl) (by subst hW; go_simp <;> rfl) (by subst hW; go_simp <;> rfl)
          obtain ⟨ra, rb, rc, rd, rz⟩ := cells2 (W := W) (b := w.heap.size + 1) (Below.refl _ W) (by subst hW; go_size) (by subst hW; go_simp <;> rfl) (by subst hW; go_simp <;> rfl) (by subst hW; go_simp <;> rfl) (by subst hW; go_simp <;> rfl)
          clear hW
          have Lra := fun x : Later W.heap.size W => (x.cell rz).trans ra
          have Lrb := fun x : Later W.heap.size W => (x.cell rz).trans rb
          refine region_later W.heap.size (by kernel_rfl) (by kernel_rfl) ?_
          repeat (go_big_quiet_step ((go_at_call 41; exact later_same (width_any _ _))))
          refine wpQuiet_nil ?_
          intro x
          have hx : Below w.heap.size w x.at := hB.trans (x.below.mono hz)
          clear Lra Lrb
          obtain ⟨qa, qb, qc, qd, qz⟩ := cells2 x.below pz pa pb pc pd
          clear pa pb pc pd pz
          obtain ⟨sa, sb, sc, sd, sz⟩ := cells2 x.below rz ra rb rc rd
          clear ra rb rc rd rz
          generalize x.at = w2 at *
          clear x hB hz W
          go_wp2
          refine bodyPost_ret (v := .tuple #[.agg #[.bool false, .int .i64 0], .int .i64 0, .int .i64 1]) (by simp [*, results, Try.results28, go_sem] <;> rfl) rfl ⟨rfl, ?_⟩
          go_grown
        · go_enter Try.func28, Try.ntmps28
          go_wp2_with fail
          go_region_held3 (fun w' => w'.cell? ⟨g, off, none⟩ = some (.int .u8 6) ∧ w'.cell? ⟨g, off + 1, none⟩ = some (.int .u8 (at0 l 1))) (go_keep) (fail)
          go_wp2_with fail
          generalize hW : World.drew _ = W
          have hz : w.heap.size ≤ W.heap.size := by subst hW; go_size
          have hB : Below w.heap.size w W := by subst hW; go_grown
          obtain ⟨pa, pb, pc, pd, pz⟩ := cells2 (W := W) (b := w.heap.size) (Below.refl _ W) (by subst hW; go_size) (by subst hW; go_simp <;> rfl) (by subst hW; go_simp <;> rfl) (by subst hW; go_simp <;> rfl) (by subst hW; go_simp <;> rfl)
          obtain ⟨ra, rb, rc, rd, rz⟩ := cells2 (W := W) (b := w.heap.size + 1) (Below.refl _ W) (by subst hW; go_size) (by subst hW; go_simp <;> rfl) (by subst hW; go_simp <;> rfl) (by subst hW; go_simp <;> rfl) (by subst hW; go_simp <;> rfl)
          clear hW
          have Lra := fun x : Later W.heap.size W => (x.cell rz).trans ra
          have Lrb := fun x : Later W.heap.size W => (x.cell rz).trans rb
          refine region_later W.heap.size (by kernel_rfl) (by kernel_rfl) ?_
          repeat (go_big_quiet_step ((go_at_call 41; exact later_same (width_any _ _))))
          refine wpQuiet_nil ?_
          intro x
          have hx : Below w.heap.size w x.at := hB.trans (x.below.mono hz)
          clear Lra Lrb
          obtain ⟨qa, qb, qc, qd, qz⟩ := cells2 x.below pz pa pb pc pd
          clear pa pb pc pd pz
          obtain ⟨sa, sb, sc, sd, sz⟩ := cells2 x.below rz ra rb rc rd
          clear ra rb rc rd rz
          generalize x.at = w2 at *
          clear x hB hz W
          go_wp2
          refine bodyPost_ret (v := .tuple #[.agg #[.bool false, .int .i64 0], .int .i64 0, .int .i64 1]) (by simp [*, results, Try.results28, go_sem] <;> rfl) rfl ⟨rfl, ?_⟩
          go_grown
      · exact absurd (by unfold headE; rw [if_neg h2, if_neg h5, if_neg h1]) he

set_option maxHeartbeats 1000000 in
theorem getHead_ok (A : Option Addr) (c : Nat) (l : List Int) (w : World) (h : Rd w A c l) (he : headE l = 0) :
    Calls Try.prog 28 #[.slice A l.length c] w fun e w' => e = .returned (.tuple #[.agg #[.bool (at0 l 0 == 6), .int .i64 (at0 l 1)], .int .i64 2, .int .i64 0]) ∧ Below w.heap.size w w' := by
  by_cases h2 : l.length < 2
  · rw [show headE l = 6 by unfold headE; rw [if_pos h2]] at he
    cases he
  · obtain ⟨g, off, rfl, hg, hc⟩ := h.at_ (by omega)
    obtain ⟨b0, b1⟩ := at0_bd h.2.2.1 0
    obtain ⟨d0, d1⟩ := at0_bd h.2.2.1 1
    have hc0 := hc 0 (by omega)
    have hc1 := hc 1 (by omega)
    rw [Nat.add_zero] at hc0
    have t1 : decide ((l.length : Int) < 2) = false := by simp; omega
    have i0 : 0 < l.length := by omega
    have i1 : (1 : Int) < (l.length : Int) := by omega
    by_cases h5 : at0 l 0 ≠ 4 ∧ at0 l 0 ≠ 6
    · rw [show headE l = 5 by unfold headE; rw [if_neg h2, if_pos h5]] at he
      cases he
    · by_cases h1 : wid (at0 l 0 == 6) < at0 l 1
      · rw [show headE l = 1 by unfold headE; rw [if_neg h2, if_neg h5, if_pos h1]] at he
        cases he
      · have t4 : decide (wid (at0 l 0 == 6) < at0 l 1) = false := by simp [h1]
        clear h he h2 hc h1
        rcases (show at0 l 0 = 4 ∨ at0 l 0 = 6 by omega) with h6 | h6
        all_goals
          rw [h6] at t4 hc0
          try rw [h6]
          have w4 : ((4 : Int) == 6) = false := rfl
          have w6 : ((6 : Int) == 6) = true := rfl
          first | rw [w4] at t4 | rw [w6] at t4
          try rw [w4]
          try rw [w6]
          clear w4 w6
          clear h5 b0 b1 h6
        · go_enter Try.func28, Try.ntmps28
          go_wp2_with fail
          go_region_held3 (fun w' => w'.cell? ⟨g, off, none⟩ = some (.int .u8 4) ∧ w'.cell? ⟨g, off + 1, none⟩ = some (.int .u8 (at0 l 1))) (go_keep) (fail)
          go_wp2_with fail
          generalize hW : World.drew _ = W
          have hz : w.heap.size ≤ W.heap.size := by subst hW; go_size
          have hB : Below w.heap.size w W := by subst hW; go_grown
          obtain ⟨pa, pb, pc, pd, pz⟩ := cells2 (W := W) (b := w.heap.size) (Below.refl _ W) (by subst hW; go_size) (by subst hW; go_simp <;> rfl) (by subst hW; go_simp <;> rfl) (by subst hW; go_simp <;> rfl) (by subst hW; go_simp <;> rfl)
          obtain ⟨ra, rb, rc, rd, rz⟩ := cells2 (W := W) (b := w.heap.size + 1) (Below.refl _ W) (by subst hW; go_size) (by subst hW; go_simp <;> rfl) (by subst hW; go_simp <;> rfl) (by subst hW; go_simp <;> rfl) (by subst hW; go_simp <;> rfl)
          clear hW
          have Lra := fun x : Later W.heap.size W => (x.cell rz).trans ra
          have Lrb := fun x : Later W.heap.size W => (x.cell rz).trans rb
          refine region_later W.heap.size (by kernel_rfl) (by kernel_rfl) ?_
          repeat (go_big_quiet_step ((go_at_call 41; exact later_same (width_any _ _))))
          refine wpQuiet_nil ?_
          intro x
          have hx : Below w.heap.size w x.at := hB.trans (x.below.mono hz)
          clear Lra Lrb
          obtain ⟨qa, qb, qc, qd, qz⟩ := cells2 x.below pz pa pb pc pd
          clear pa pb pc pd pz
          obtain ⟨sa, sb, sc, sd, sz⟩ := cells2 x.below rz ra rb rc rd
          clear ra rb rc rd rz
          generalize x.at = w2 at *
          clear x hB hz W
          go_wp2
          refine bodyPost_ret (v := .tuple #[.agg #[.bool false, .int .i64 (at0 l 1)], .int .i64 2, .int .i64 0]) (by simp [*, results, Try.results28, go_sem] <;> rfl) rfl ⟨rfl, ?_⟩
          go_grown
        · go_enter Try.func28, Try.ntmps28
          go_wp2_with fail
          go_region_held3 (fun w' => w'.cell? ⟨g, off, none⟩ = some (.int .u8 6) ∧ w'.cell? ⟨g, off + 1, none⟩ = some (.int .u8 (at0 l 1))) (go_keep) (fail)
          go_wp2_with fail
          generalize hW : World.drew _ = W
          have hz : w.heap.size ≤ W.heap.size := by subst hW; go_size
          have hB : Below w.heap.size w W := by subst hW; go_grown
          obtain ⟨pa, pb, pc, pd, pz⟩ := cells2 (W := W) (b := w.heap.size) (Below.refl _ W) (by subst hW; go_size) (by subst hW; go_simp <;> rfl) (by subst hW; go_simp <;> rfl) (by subst hW; go_simp <;> rfl) (by subst hW; go_simp <;> rfl)
          obtain ⟨ra, rb, rc, rd, rz⟩ := cells2 (W := W) (b := w.heap.size + 1) (Below.refl _ W) (by subst hW; go_size) (by subst hW; go_simp <;> rfl) (by subst hW; go_simp <;> rfl) (by subst hW; go_simp <;> rfl) (by subst hW; go_simp <;> rfl)
          clear hW
          have Lra := fun x : Later W.heap.size W => (x.cell rz).trans ra
          have Lrb := fun x : Later W.heap.size W => (x.cell rz).trans rb
          refine region_later W.heap.size (by kernel_rfl) (by kernel_rfl) ?_
          repeat (go_big_quiet_step ((go_at_call 41; exact later_same (width_any _ _))))
          refine wpQuiet_nil ?_
          intro x
          have hx : Below w.heap.size w x.at := hB.trans (x.below.mono hz)
          clear Lra Lrb
          obtain ⟨qa, qb, qc, qd, qz⟩ := cells2 x.below pz pa pb pc pd
          clear pa pb pc pd pz
          obtain ⟨sa, sb, sc, sd, sz⟩ := cells2 x.below rz ra rb rc rd
          clear ra rb rc rd rz
          generalize x.at = w2 at *
          clear x hB hz W
          go_wp2
          refine bodyPost_ret (v := .tuple #[.agg #[.bool true, .int .i64 (at0 l 1)], .int .i64 2, .int .i64 0]) (by simp [*, results, Try.results28, go_sem] <;> rfl) rfl ⟨rfl, ?_⟩
          go_grown

end Go.Proofs.Ytibhabglmkgaaaa
