/-
  What Sane, Contains and Of of the document's answer for layer 2 return. No condition.
-/
import Derived.Test.YtfebhfghjdedhaaDoorMathP
import Derived.Test.YtfebhfghjdedhaaDoorPi
import Derived.Test.YtfebhfghjdedhaaDoorPbx
import Derived.Test.YtfebhfghjdedhaaDoorRefG
namespace Go.Proofs.YtfebhfghjdedhaaDoor
open Go.RowKit

set_option maxHeartbeats 1000000 in
theorem rpsane_any (p : Pf) (w : World) :
    Calls Tryd.prog 23 #[.agg #[.int .u64 (u p.a.hi), .int .u64 (u p.a.lo), .bool p.a.v6, .int .i64 p.n]] w fun e w' => e = .returned (.bool (psane p)) ∧ Below w.heap.size w w' := by
  have hw := wid_bd p.a.v6
  cases hs : saneB p.a
  · have hr := Lib.hid (psane_not p (by simp [hs]))
    have hs' : (!saneB p.a) = true := by simp [hs]
    clear hs
    go_enter Tryd.func23, Tryd.ntmps23
    go_wp2_with fail
    generalize hW : World.alloc _ _ = W
    have hz : w.heap.size ≤ W.heap.size := by subst hW; go_size
    have hB : Below w.heap.size w W := by subst hW; go_grown
    obtain ⟨pa, pb, pc, pg, pd, pe, pf, ph, pz⟩ := cells4 (W := W) (b := w.heap.size) (Below.refl _ W) (by subst hW; go_size) (by subst hW; go_simp <;> rfl) (by subst hW; go_simp <;> rfl) (by subst hW; go_simp <;> rfl) (by subst hW; go_simp <;> rfl) (by subst hW; go_simp <;> rfl) (by subst hW; go_simp <;> rfl) (by subst hW; go_simp <;> rfl) (by subst hW; go_simp <;> rfl)
    clear hW
    have Lpa := fun x : Later W.heap.size W => (x.cell pz).trans pa
    have Lpb := fun x : Later W.heap.size W => (x.cell pz).trans pb
    have Lpc := fun x : Later W.heap.size W => (x.cell pz).trans pc
    have Lpg := fun x : Later W.heap.size W => (x.cell pz).trans pg
    refine region_later W.heap.size (by kernel_rfl) (by kernel_rfl) ?_
    repeat (go_big_quiet_step (first | (go_at_call 44; exact later_of (Nat.le_refl _) (refSane_any p.a _)) | (go_at_call 45; exact later_same (refWidth_any _ _))))
    refine wpQuiet_nil ?_
    intro x
    have hx : Below w.heap.size w x.at := hB.trans (x.below.mono hz)
    clear Lpa Lpb Lpc Lpg
    obtain ⟨p'a, p'b, p'c, p'g, p'd, p'e, p'f, p'h, p'z⟩ := cells4 x.below pz pa pb pc pg pd pe pf ph
    clear pa pb pc pd pe pf pg ph pz
    generalize x.at = w1 at *
    clear x hB hz W
    go_wp2
    go_ret
    exact ⟨ret_bool hr.out.symm, hx⟩
  · have hs' : (!saneB p.a) = false := by simp [hs]
    by_cases h0 : p.n < 0
    · have hr := Lib.hid (psane_not p (by omega))
      have t0 : decide (p.n < 0) = true := by simp [h0]
      clear hs
      go_enter Tryd.func23, Tryd.ntmps23
      go_wp2_with fail
      generalize hW : World.alloc _ _ = W
      have hz : w.heap.size ≤ W.heap.size := by subst hW; go_size
      have hB : Below w.heap.size w W := by subst hW; go_grown
      obtain ⟨pa, pb, pc, pg, pd, pe, pf, ph, pz⟩ := cells4 (W := W) (b := w.heap.size) (Below.refl _ W) (by subst hW; go_size) (by subst hW; go_simp <;> rfl) (by subst hW; go_simp <;> rfl) (by subst hW; go_simp <;> rfl) (by subst hW; go_simp <;> rfl) (by subst hW; go_simp <;> rfl) (by subst hW; go_simp <;> rfl) (by subst hW; go_simp <;> rfl) (by subst hW; go_simp <;> rfl)
      clear hW
      have Lpa := fun x : Later W.heap.size W => (x.cell pz).trans pa
      have Lpb := fun x : Later W.heap.size W => (x.cell pz).trans pb
      have Lpc := fun x : Later W.heap.size W => (x.cell pz).trans pc
      have Lpg := fun x : Later W.heap.size W => (x.cell pz).trans pg
      refine region_later W.heap.size (by kernel_rfl) (by kernel_rfl) ?_
      repeat (go_big_quiet_step (first | (go_at_call 44; exact later_of (Nat.le_refl _) (refSane_any p.a _)) | (go_at_call 45; exact later_same (refWidth_any _ _))))
      refine wpQuiet_nil ?_
      intro x
      have hx : Below w.heap.size w x.at := hB.trans (x.below.mono hz)
      clear Lpa Lpb Lpc Lpg
      obtain ⟨p'a, p'b, p'c, p'g, p'd, p'e, p'f, p'h, p'z⟩ := cells4 x.below pz pa pb pc pg pd pe pf ph
      clear pa pb pc pd pe pf pg ph pz
      generalize x.at = w1 at *
      clear x hB hz W
      go_wp2
      go_ret
      exact ⟨ret_bool hr.out.symm, hx⟩
    · have t0 : decide (p.n < 0) = false := by simp [h0]
      by_cases h1 : wid p.a.v6 < p.n
      · have hr := Lib.hid (psane_not p (by omega))
        have t1 : decide (wid p.a.v6 < p.n) = true := by simp [h1]
        clear hs
        go_enter Tryd.func23, Tryd.ntmps23
        go_wp2_with fail
        generalize hW : World.alloc _ _ = W
        have hz : w.heap.size ≤ W.heap.size := by subst hW; go_size
        have hB : Below w.heap.size w W := by subst hW; go_grown
        obtain ⟨pa, pb, pc, pg, pd, pe, pf, ph, pz⟩ := cells4 (W := W) (b := w.heap.size) (Below.refl _ W) (by subst hW; go_size) (by subst hW; go_simp <;> rfl) (by subst hW; go_simp <;> rfl) (by subst hW; go_simp <;> rfl) (by subst hW; go_simp <;> rfl) (by subst hW; go_simp <;> rfl) (by subst hW; go_simp <;> rfl) (by subst hW; go_simp <;> rfl) (by subst hW; go_simp <;> rfl)
        clear hW
        have Lpa := fun x : Later W.heap.size W => (x.cell pz).trans pa
        have Lpb := fun x : Later W.heap.size W => (x.cell pz).trans pb
        have Lpc := fun x : Later W.heap.size W => (x.cell pz).trans pc
        have Lpg := fun x : Later W.heap.size W => (x.cell pz).trans pg
        refine region_later W.heap.size (by kernel_rfl) (by kernel_rfl) ?_
        repeat (go_big_quiet_step (first | (go_at_call 44; exact later_of (Nat.le_refl _) (refSane_any p.a _)) | (go_at_call 45; exact later_same (refWidth_any _ _))))
        refine wpQuiet_nil ?_
        intro x
        have hx : Below w.heap.size w x.at := hB.trans (x.below.mono hz)
        clear Lpa Lpb Lpc Lpg
        obtain ⟨p'a, p'b, p'c, p'g, p'd, p'e, p'f, p'h, p'z⟩ := cells4 x.below pz pa pb pc pg pd pe pf ph
        clear pa pb pc pd pe pf pg ph pz
        generalize x.at = w1 at *
        clear x hB hz W
        go_wp2
        go_ret
        exact ⟨ret_bool hr.out.symm, hx⟩
      · have t1 : decide (wid p.a.v6 < p.n) = false := by simp [h1]
        have hy := Lib.hid (psane_bits p hs (by omega) (by omega))
        have hn := Lib.hid (psane_bit p)
        clear hs
        go_enter Tryd.func23, Tryd.ntmps23
        go_wp2_with fail
        generalize hW : World.alloc _ _ = W
        have hz : w.heap.size ≤ W.heap.size := by subst hW; go_size
        have hB : Below w.heap.size w W := by subst hW; go_grown
        obtain ⟨pa, pb, pc, pg, pd, pe, pf, ph, pz⟩ := cells4 (W := W) (b := w.heap.size) (Below.refl _ W) (by subst hW; go_size) (by subst hW; go_simp <;> rfl) (by subst hW; go_simp <;> rfl) (by subst hW; go_simp <;> rfl) (by subst hW; go_simp <;> rfl) (by subst hW; go_simp <;> rfl) (by subst hW; go_simp <;> rfl) (by subst hW; go_simp <;> rfl) (by subst hW; go_simp <;> rfl)
        clear hW
        have Lpa := fun x : Later W.heap.size W => (x.cell pz).trans pa
        have Lpb := fun x : Later W.heap.size W => (x.cell pz).trans pb
        have Lpc := fun x : Later W.heap.size W => (x.cell pz).trans pc
        have Lpg := fun x : Later W.heap.size W => (x.cell pz).trans pg
        refine region_later W.heap.size (by kernel_rfl) (by kernel_rfl) ?_
        repeat (go_big_quiet_step (first | (go_at_call 44; exact later_of (Nat.le_refl _) (refSane_any p.a _)) | (go_at_call 45; exact later_same (refWidth_any _ _))))
        refine wpQuiet_nil ?_
        intro x
        have hx : Below w.heap.size w x.at := hB.trans (x.below.mono hz)
        clear Lpa Lpb Lpc Lpg
        obtain ⟨p'a, p'b, p'c, p'g, p'd, p'e, p'f, p'h, p'z⟩ := cells4 x.below pz pa pb pc pg pd pe pf ph
        clear pa pb pc pd pe pf pg ph pz
        generalize x.at = w1 at *
        clear x hB hz W
        go_wp2_with fail
        go_loopw [3] (fun v wr => ∃ i : Int, v = .int .i64 i ∧ p.n ≤ i ∧ i ≤ wid p.a.v6 ∧ Hid (∀ j : Nat, p.n ≤ (j : Int) → (j : Int) < i → bitv p.a (j : Int) = 0) ∧ PBox wr w.heap.size p ∧ Below w.heap.size w wr) (fun v _ => (wid p.a.v6 - intOf v).toNat)
        case atStart =>
          exact ⟨p.n, rfl, Int.le_refl _, by omega, fun j h2 h3 => absurd h3 (by omega), ⟨p'a, p'b, p'c, p'g, p'd, p'e, p'f, p'h, p'z⟩, hx⟩
        case round =>
          clear p'a p'b p'c p'd p'e p'f p'g p'h p'z hx
          obtain ⟨i, rfl, h2, h3, hall, ⟨pa, pb, pc, pg, pd, pe, pf, ph, pz⟩, hB⟩ := hrel
          by_cases hlt : i < wid p.a.v6
          · have tl' : decide (i < wid p.a.v6) = true := by simp [hlt]
            by_cases hb : bitv p.a i = 0
            · have hb' : (bitv p.a i == 0) = true := by simp [hb]
              have Hb := Lib.hid hb
              clear hb
              go_wp2_with fail
              refine (refWidth_any p.a.v6 _).mono ?_
              rintro e w2 ⟨rfl, rfl⟩
              go_wp2_with fail
              refine (refBit_any p.a i _).mono ?_
              rintro e w3 ⟨rfl, h4⟩
              obtain ⟨p'a, p'b, p'c, p'g, p'd, p'e, p'f, p'h, p'z⟩ := cells4 h4 pz pa pb pc pg pd pe pf ph
              have b3 := hB.trans (h4.mono hB.size)
              clear h4 hB pa pb pc pd pe pf pg ph pz
              go_wp2_with fail
              refine ⟨⟨i + 1, rfl, by omega, by omega, fun j h5 h6 => ?_, ⟨p'a, p'b, p'c, p'g, p'd, p'e, p'f, p'h, p'z⟩, b3⟩, by simp [intOf]; omega⟩
              by_cases e : (j : Int) = i
              · rw [e]; exact Hb.out
              · exact hall.out j h5 (by omega)
            · have hb' : (bitv p.a i == 0) = false := by simp [hb]
              have hr : Hid (psane p = false) := by
                cases hp : psane p
                · exact rfl
                · obtain ⟨k, rfl⟩ := Int.eq_ofNat_of_zero_le (show 0 ≤ i by omega)
                  rw [wid_wd] at hlt
                  exact absurd (hn.out hp k h2 (by omega)) hb
              clear hb
              go_wp2_with fail
              refine (refWidth_any p.a.v6 _).mono ?_
              rintro e w2 ⟨rfl, rfl⟩
              go_wp2_with fail
              refine (refBit_any p.a i _).mono ?_
              rintro e w3 ⟨rfl, h4⟩
              have b3 := hB.trans (h4.mono hB.size)
              clear h4 hB pa pb pc pd pe pf pg ph pz
              go_wp2
              go_ret
              exact ⟨ret_bool hr.out.symm, b3⟩
          · have tl' : decide (i < wid p.a.v6) = false := by simp [hlt]
            have hr : Hid (psane p = true) := hy.out fun j h5 h6 => hall.out j h5 (by rw [wid_wd] at hlt; omega)
            go_wp2_with fail
            refine (refWidth_any p.a.v6 _).mono ?_
            rintro e w2 ⟨rfl, rfl⟩
            go_wp2
            go_ret
            exact ⟨ret_bool hr.out.symm, hB⟩

end Go.Proofs.YtfebhfghjdedhaaDoor
