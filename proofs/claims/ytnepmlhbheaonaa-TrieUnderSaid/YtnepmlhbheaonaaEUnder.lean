/-
  TrieUnder: for every input the call returns true, and each argument reads afterwards as it read before. No condition.
-/
import Derived.Test.YtnepmlhbheaonaaMathP
import Derived.Test.YtnepmlhbheaonaaPi
import Derived.Test.YtnepmlhbheaonaaPbx
import Derived.Test.YtnepmlhbheaonaaRefG
import Derived.Test.YtnepmlhbheaonaaE1
import Derived.Test.YtnepmlhbheaonaaF1
namespace Go.Proofs.Ytnepmlhbheaonaa
open Go.RowKit

set_option maxHeartbeats 1000000 in
theorem rpsane_any (p : Pf) (w : World) :
    Calls Try.prog 14 #[.agg #[.int .u64 (u p.a.hi), .int .u64 (u p.a.lo), .bool p.a.v6, .int .i64 p.n]] w fun e w' => e = .returned (.bool (psane p)) ∧ Below w.heap.size w w' := by
  have hw := wid_bd p.a.v6
  cases hs : saneB p.a
  · have hr := Lib.hid (psane_not p (by simp [hs]))
    have hs' : (!saneB p.a) = true := by simp [hs]
    clear hs
    go_enter Try.func14, Try.ntmps14
    go_wp2_with fail
    generalize hW : World.alloc _ _ = W
    have hz : w.heap.size ≤ W.heap.size := by subst hW; go_size
    have hB : Below w.heap.size w W := by subst hW; go_grown
    obtain ⟨pa, pb, pc, pg, pd, pe, pf, ph, pz⟩ := cells4 (W := W) (b := w.heap.size) (Below.refl _ W) (by subst hW; go_size) (by subst hW; go_simp <;> rfl) (by subst hW; go_simp <;> rfl) (by subst hW; go_simp <;> rfl) (by subst hW; go_simp <;> rfl) (by subst hW; go_simp <;> rfl) (by subst hW; go_simp <;> rfl) (by subst hW; go_simp <;> rfl) (by subst hW; go_simp <;> rfl)
    clear hW
    have Lpa := fun x : Later W.heap.size W => (x.cell pz).trans pa
    have Lpb := fun x : Later W.heap.size W => (x.cell pz).trans pb
    have Lpc := fun x : Later W.heap.size W => (x.cell pz).trans pc
    have Lpg := fun x : Later W.heap.size W => (x.cell pz).trans pg
    refine region_later W.heap.size (by kernel_rfl) (by kernel_rfl) ?_
    repeat (go_big_quiet_step (first | (go_at_call 54; exact later_of (Nat.le_refl _) (refSane_any p.a _)) | (go_at_call 55; exact later_same (refWidth_any _ _))))
    refine wpQuiet_nil ?_
    intro x
    have hx : Below w.heap.size w x.at := hB.trans (x.below.mono hz)
    clear Lpa Lpb Lpc Lpg
    obtain ⟨p'a, p'b, p'c, p'g, p'd, p'e, p'f, p'h, p'z⟩ := cells4 x.below pz pa pb pc pg pd pe pf ph
    clear pa pb pc pd pe pf pg ph pz
    generalize x.at = w1 at *
    clear x hB hz W
    go_wp2
    go_ret
    exact ⟨ret_bool hr.out.symm, hx⟩
  · have hs' : (!saneB p.a) = false := by simp [hs]
    by_cases h0 : p.n < 0
    · have hr := Lib.hid (psane_not p (by omega))
      have t0 : decide (p.n < 0) = true := by simp [h0]
      clear hs
      go_enter Try.func14, Try.ntmps14
      go_wp2_with fail
      generalize hW : World.alloc _ _ = W
      have hz : w.heap.size ≤ W.heap.size := by subst hW; go_size
      have hB : Below w.heap.size w W := by subst hW; go_grown
      obtain ⟨pa, pb, pc, pg, pd, pe, pf, ph, pz⟩ := cells4 (W := W) (b := w.heap.size) (Below.refl _ W) (by subst hW; go_size) (by subst hW; go_simp <;> rfl) (by subst hW; go_simp <;> rfl) (by subst hW; go_simp <;> rfl) (by subst hW; go_simp <;> rfl) (by subst hW; go_simp <;> rfl) (by subst hW; go_simp <;> rfl) (by subst hW; go_simp <;> rfl) (by subst hW; go_simp <;> rfl)
      clear hW
      have Lpa := fun x : Later W.heap.size W => (x.cell pz).trans pa
      have Lpb := fun x : Later W.heap.size W => (x.cell pz).trans pb
      have Lpc := fun x : Later W.heap.size W => (x.cell pz).trans pc
      have Lpg := fun x : Later W.heap.size W => (x.cell pz).trans pg
      refine region_later W.heap.size (by kernel_rfl) (by kernel_rfl) ?_
      repeat (go_big_quiet_step (first | (go_at_call 54; exact later_of (Nat.le_refl _) (refSane_any p.a _)) | (go_at_call 55; exact later_same (refWidth_any _ _))))
      refine wpQuiet_nil ?_
      intro x
      have hx : Below w.heap.size w x.at := hB.trans (x.below.mono hz)
      clear Lpa Lpb Lpc Lpg
      obtain ⟨p'a, p'b, p'c, p'g, p'd, p'e, p'f, p'h, p'z⟩ := cells4 x.below pz pa pb pc pg pd pe pf ph
      clear pa pb pc pd pe pf pg ph pz
      generalize x.at = w1 at *
      clear x hB hz W
      go_wp2
      go_ret
      exact ⟨ret_bool hr.out.symm, hx⟩
    · have t0 : decide (p.n < 0) = false := by simp [h0]
      by_cases h1 : wid p.a.v6 < p.n
      · have hr := Lib.hid (psane_not p (by omega))
        have t1 : decide (wid p.a.v6 < p.n) = true := by simp [h1]
        clear hs
        go_enter Try.func14, Try.ntmps14
        go_wp2_with fail
        generalize hW : World.alloc _ _ = W
        have hz : w.heap.size ≤ W.heap.size := by subst hW; go_size
        have hB : Below w.heap.size w W := by subst hW; go_grown
        obtain ⟨pa, pb, pc, pg, pd, pe, pf, ph, pz⟩ := cells4 (W := W) (b := w.heap.size) (Below.refl _ W) (by subst hW; go_size) (by subst hW; go_simp <;> rfl) (by subst hW; go_simp <;> rfl) (by subst hW; go_simp <;> rfl) (by subst hW; go_simp <;> rfl) (by subst hW; go_simp <;> rfl) (by subst hW; go_simp <;> rfl) (by subst hW; go_simp <;> rfl) (by subst hW; go_simp <;> rfl)
        clear hW
        have Lpa := fun x : Later W.heap.size W => (x.cell pz).trans pa
        have Lpb := fun x : Later W.heap.size W => (x.cell pz).trans pb
        have Lpc := fun x : Later W.heap.size W => (x.cell pz).trans pc
        have Lpg := fun x : Later W.heap.size W => (x.cell pz).trans pg
        refine region_later W.heap.size (by kernel_rfl) (by kernel_rfl) ?_
        repeat (go_big_quiet_step (first | (go_at_call 54; exact later_of (Nat.le_refl _) (refSane_any p.a _)) | (go_at_call 55; exact later_same (refWidth_any _ _))))
        refine wpQuiet_nil ?_
        intro x
        have hx : Below w.heap.size w x.at := hB.trans (x.below.mono hz)
        clear Lpa Lpb Lpc Lpg
        obtain ⟨p'a, p'b, p'c, p'g, p'd, p'e, p'f, p'h, p'z⟩ := cells4 x.below pz pa pb pc pg pd pe pf ph
        clear pa pb pc pd pe pf pg ph pz
        generalize x.at = w1 at *
        clear x hB hz W
        go_wp2
        go_ret
        exact ⟨ret_bool hr.out.symm, hx⟩
      · have t1 : decide (wid p.a.v6 < p.n) = false := by simp [h1]
        have hy := Lib.hid (psane_bits p hs (by omega) (by omega))
        have hn := Lib.hid (psane_bit p)
        clear hs
        go_enter Try.func14, Try.ntmps14
        go_wp2_with fail
        generalize hW : World.alloc _ _ = W
        have hz : w.heap.size ≤ W.heap.size := by subst hW; go_size
        have hB : Below w.heap.size w W := by subst hW; go_grown
        obtain ⟨pa, pb, pc, pg, pd, pe, pf, ph, pz⟩ := cells4 (W := W) (b := w.heap.size) (Below.refl _ W) (by subst hW; go_size) (by subst hW; go_simp <;> rfl) (by subst hW; go_simp <;> rfl) (by subst hW; go_simp <;> rfl) (by subst hW; go_simp <;> rfl) (by subst hW; go_simp <;> rfl) (by subst hW; go_simp <;> rfl) (by subst hW; go_simp <;> rfl) (by subst hW; go_simp <;> rfl)
        clear hW
        have Lpa := fun x : Later W.heap.size W => (x.cell pz).trans pa
        have Lpb := fun x : Later W.heap.size W => (x.cell pz).trans pb
        have Lpc := fun x : Later W.heap.size W => (x.cell pz).trans pc
        have Lpg := fun x : Later W.heap.size W => (x.cell pz).trans pg
        refine region_later W.heap.size (by kernel_rfl) (by kernel_rfl) ?_
        repeat (go_big_quiet_step (first | (go_at_call 54; exact later_of (Nat.le_refl _) (refSane_any p.a _)) | (go_at_call 55; exact later_same (refWidth_any _ _))))
        refine wpQuiet_nil ?_
        intro x
        have hx : Below w.heap.size w x.at := hB.trans (x.below.mono hz)
        clear Lpa Lpb Lpc Lpg
        obtain ⟨p'a, p'b, p'c, p'g, p'd, p'e, p'f, p'h, p'z⟩ := cells4 x.below pz pa pb pc pg pd pe pf ph
        clear pa pb pc pd pe pf pg ph pz
        generalize x.at = w1 at *
        clear x hB hz W
        go_wp2_with fail
        go_loopw [3] (fun v wr => ∃ i : Int, v = .int .i64 i ∧ p.n ≤ i ∧ i ≤ wid p.a.v6 ∧ Hid (∀ j : Nat, p.n ≤ (j : Int) → (j : Int) < i → bitv p.a (j : Int) = 0) ∧ PBox wr w.heap.size p ∧ Below w.heap.size w wr) (fun v _ => (wid p.a.v6 - intOf v).toNat)
        case atStart =>
          exact ⟨p.n, rfl, Int.le_refl _, by omega, fun j h2 h3 => absurd h3 (by omega), ⟨p'a, p'b, p'c, p'g, p'd, p'e, p'f, p'h, p'z⟩, hx⟩
        case round =>
          clear p'a p'b p'c p'd p'e p'f p'g p'h p'z hx
          obtain ⟨i, rfl, h2, h3, hall, ⟨pa, pb, pc, pg, pd, pe, pf, ph, pz⟩, hB⟩ := hrel
          by_cases hlt : i < wid p.a.v6
          · have tl' : decide (i < wid p.a.v6) = true := by simp [hlt]
            by_cases hb : bitv p.a i = 0
            · have hb' : (bitv p.a i == 0) = true := by simp [hb]
              have Hb := Lib.hid hb
              clear hb
              go_wp2_with fail
              refine (refWidth_any p.a.v6 _).mono ?_
              rintro e w2 ⟨rfl, rfl⟩
              go_wp2_with fail
              refine (refBit_any p.a i _).mono ?_
              rintro e w3 ⟨rfl, h4⟩
              obtain ⟨p'a, p'b, p'c, p'g, p'd, p'e, p'f, p'h, p'z⟩ := cells4 h4 pz pa pb pc pg pd pe pf ph
              have b3 := hB.trans (h4.mono hB.size)
              clear h4 hB pa pb pc pd pe pf pg ph pz
              go_wp2_with fail
              refine ⟨⟨i + 1, rfl, by omega, by omega, fun j h5 h6 => ?_, ⟨p'a, p'b, p'c, p'g, p'd, p'e, p'f, p'h, p'z⟩, b3⟩, by simp [intOf]; omega⟩
              by_cases e : (j : Int) = i
              · rw [e]; exact Hb.out
              · exact hall.out j h5 (by omega)
            · have hb' : (bitv p.a i == 0) = false := by simp [hb]
              have hr : Hid (psane p = false) := by
                cases hp : psane p
                · exact rfl
                · obtain ⟨k, rfl⟩ := Int.eq_ofNat_of_zero_le (show 0 ≤ i by omega)
                  rw [wid_wd] at hlt
                  exact absurd (hn.out hp k h2 (by omega)) hb
              clear hb
              go_wp2_with fail
              refine (refWidth_any p.a.v6 _).mono ?_
              rintro e w2 ⟨rfl, rfl⟩
              go_wp2_with fail
              refine (refBit_any p.a i _).mono ?_
              rintro e w3 ⟨rfl, h4⟩
              have b3 := hB.trans (h4.mono hB.size)
              clear h4 hB pa pb pc pd pe pf pg ph pz
              go_wp2
              go_ret
              exact ⟨ret_bool hr.out.symm, b3⟩
          · have tl' : decide (i < wid p.a.v6) = false := by simp [hlt]
            have hr : Hid (psane p = true) := hy.out fun j h5 h6 => hall.out j h5 (by rw [wid_wd] at hlt; omega)
            go_wp2_with fail
            refine (refWidth_any p.a.v6 _).mono ?_
            rintro e w2 ⟨rfl, rfl⟩
            go_wp2
            go_ret
            exact ⟨ret_bool hr.out.symm, hB⟩

set_option maxHeartbeats 1000000 in
theorem rpcon_any (p : Pf) (a : Ad) (w : World) :
    Calls Try.prog 86 #[.agg #[.int .u64 (u p.a.hi), .int .u64 (u p.a.lo), .bool p.a.v6, .int .i64 p.n], .agg #[.int .u64 (u a.hi), .int .u64 (u a.lo), .bool a.v6]] w fun e w' => e = .returned (.bool (pcon p a)) ∧ Below w.heap.size w w' := by
  cases hs : psane p
  · have hr : Hid (pcon p a = false) := by
      cases hc : pcon p a
      · exact rfl
      · rw [((pcon_iff p a).1 hc).1] at hs; cases hs
    have Hs := Lib.hid hs
    clear hs
    go_enter Try.func86, Try.ntmps86
    go_wp2_with fail
    refine (rpsane_any p _).mono ?_
    rintro e w1 ⟨rfl, hw1⟩
    have zw1 := hw1.size
    have bw1 := below_of (w := w) (by go_grown) hw1
    try simp at zw1
    rw [Hs.out]
    obtain ⟨pa, pb, pc, pg, pd, pe, pf, ph, pz⟩ := cells4 (b := w.heap.size) hw1 (by go_size) (by go_simp <;> rfl) (by go_simp <;> rfl) (by go_simp <;> rfl) (by go_simp <;> rfl) (by go_simp <;> rfl) (by go_simp <;> rfl) (by go_simp <;> rfl) (by go_simp <;> rfl)
    obtain ⟨qa, qb, qc, qd, qe, qf, qz⟩ := cells3 (b := w.heap.size + 1) hw1 (by go_size) (by go_simp <;> rfl) (by go_simp <;> rfl) (by go_simp <;> rfl) (by go_simp <;> rfl) (by go_simp <;> rfl) (by go_simp <;> rfl)
    clear hw1
    go_wp2
    go_ret
    exact ⟨ret_bool hr.out.symm, bw1⟩
  · by_cases hv : a.v6 = p.a.v6
    · have hv' : (a.v6 == p.a.v6) = true := by simp [hv]
      have hy := Lib.hid (pcon_bits p a hs hv)
      have hn := Lib.hid (pcon_bit p a)
      obtain ⟨b0, b1⟩ := psane_bd hs
      have hw := wid_bd p.a.v6
      have Hs := Lib.hid hs
      clear hs hv
      go_enter Try.func86, Try.ntmps86
      go_wp2_with fail
      refine (rpsane_any p _).mono ?_
      rintro e w1 ⟨rfl, hw1⟩
      have zw1 := hw1.size
      have bw1 := below_of (w := w) (by go_grown) hw1
      try simp at zw1
      rw [Hs.out]
      obtain ⟨pa, pb, pc, pg, pd, pe, pf, ph, pz⟩ := cells4 (b := w.heap.size) hw1 (by go_size) (by go_simp <;> rfl) (by go_simp <;> rfl) (by go_simp <;> rfl) (by go_simp <;> rfl) (by go_simp <;> rfl) (by go_simp <;> rfl) (by go_simp <;> rfl) (by go_simp <;> rfl)
      obtain ⟨qa, qb, qc, qd, qe, qf, qz⟩ := cells3 (b := w.heap.size + 1) hw1 (by go_size) (by go_simp <;> rfl) (by go_simp <;> rfl) (by go_simp <;> rfl) (by go_simp <;> rfl) (by go_simp <;> rfl) (by go_simp <;> rfl)
      clear hw1
      go_wp2_with fail
      go_loopw [5] (fun v wr => ∃ i : Int, v = .int .i64 i ∧ 0 ≤ i ∧ i ≤ p.n ∧ Hid (∀ j : Nat, (j : Int) < i → bitv a (j : Int) = bitv p.a (j : Int)) ∧ PBox wr w.heap.size p ∧ Box wr (w.heap.size + 1) a ∧ Below w.heap.size w wr) (fun v _ => (p.n - intOf v).toNat)
      case atStart =>
        exact ⟨0, rfl, Int.le_refl _, b0, fun j h3 => absurd h3 (by omega), ⟨pa, pb, pc, pg, pd, pe, pf, ph, pz⟩, ⟨qa, qb, qc, qd, qe, qf, qz⟩, bw1⟩
      case round =>
        clear pa pb pc pd pe pf pg ph pz qa qb qc qd qe qf qz bw1 zw1
        obtain ⟨i, rfl, h2, h3, hall, ⟨pa, pb, pc, pg, pd, pe, pf, ph, pz⟩, ⟨qa, qb, qc, qd, qe, qf, qz⟩, hB⟩ := hrel
        by_cases hlt : i < p.n
        · have tl' : decide (i < p.n) = true := by simp [hlt]
          by_cases hb : bitv a i = bitv p.a i
          · have hb' : (bitv a i == bitv p.a i) = true := by simp [hb]
            have Hb := Lib.hid hb
            clear hb
            go_wp2_with fail
            obtain ⟨W, rfl⟩ : ∃ W, W = wr := ⟨_, rfl⟩
            have hz := hB.size
            have Lpa := fun x : Later W.heap.size W => (x.cell pz).trans pa
            have Lpb := fun x : Later W.heap.size W => (x.cell pz).trans pb
            have Lpc := fun x : Later W.heap.size W => (x.cell pz).trans pc
            have Lpg := fun x : Later W.heap.size W => (x.cell pz).trans pg
            have Lqa := fun x : Later W.heap.size W => (x.cell qz).trans qa
            have Lqb := fun x : Later W.heap.size W => (x.cell qz).trans qb
            have Lqc := fun x : Later W.heap.size W => (x.cell qz).trans qc
            refine region_later W.heap.size (by kernel_rfl) (by kernel_rfl) ?_
            repeat (go_big_quiet_step (first | (go_at_call 56; exact later_of (Nat.le_refl _) (refBit_any _ _ _))))
            refine wpQuiet_nil ?_
            intro x
            have hx : Below w.heap.size w x.at := hB.trans (x.below.mono hz)
            clear Lpa Lpb Lpc Lpg Lqa Lqb Lqc
            obtain ⟨p'a, p'b, p'c, p'g, p'd, p'e, p'f, p'h, p'z⟩ := cells4 x.below pz pa pb pc pg pd pe pf ph
            clear pa pb pc pd pe pf pg ph pz
            obtain ⟨q'a, q'b, q'c, q'd, q'e, q'f, q'z⟩ := cells3 x.below qz qa qb qc qd qe qf
            clear qa qb qc qd qe qf qz
            generalize x.at = w3 at *
            clear x hB hz W
            go_wp2_with fail
            refine ⟨⟨i + 1, rfl, by omega, by omega, fun j h6 => ?_, ⟨p'a, p'b, p'c, p'g, p'd, p'e, p'f, p'h, p'z⟩, ⟨q'a, q'b, q'c, q'd, q'e, q'f, q'z⟩, hx⟩, by simp [intOf]; omega⟩
            by_cases e : (j : Int) = i
            · rw [e]; exact Hb.out
            · exact hall.out j (by omega)
          · have hb' : (bitv a i == bitv p.a i) = false := by simp [hb]
            have hr : Hid (pcon p a = false) := by
              cases hp : pcon p a
              · exact rfl
              · obtain ⟨k, rfl⟩ := Int.eq_ofNat_of_zero_le h2
                exact absurd (hn.out hp k hlt) hb
            clear hb
            go_wp2_with fail
            obtain ⟨W, rfl⟩ : ∃ W, W = wr := ⟨_, rfl⟩
            have hz := hB.size
            have Lpa := fun x : Later W.heap.size W => (x.cell pz).trans pa
            have Lpb := fun x : Later W.heap.size W => (x.cell pz).trans pb
            have Lpc := fun x : Later W.heap.size W => (x.cell pz).trans pc
            have Lpg := fun x : Later W.heap.size W => (x.cell pz).trans pg
            have Lqa := fun x : Later W.heap.size W => (x.cell qz).trans qa
            have Lqb := fun x : Later W.heap.size W => (x.cell qz).trans qb
            have Lqc := fun x : Later W.heap.size W => (x.cell qz).trans qc
            refine region_later W.heap.size (by kernel_rfl) (by kernel_rfl) ?_
            repeat (go_big_quiet_step (first | (go_at_call 56; exact later_of (Nat.le_refl _) (refBit_any _ _ _))))
            refine wpQuiet_nil ?_
            intro x
            have hx : Below w.heap.size w x.at := hB.trans (x.below.mono hz)
            clear Lpa Lpb Lpc Lpg Lqa Lqb Lqc
            clear pa pb pc pd pe pf pg ph pz qa qb qc qd qe qf qz
            generalize x.at = w3 at *
            clear x hB hz W
            go_wp2
            go_ret
            exact ⟨ret_bool hr.out.symm, hx⟩
        · have tl' : decide (i < p.n) = false := by simp [hlt]
          have hr : Hid (pcon p a = true) := hy.out fun j h5 => hall.out j (by omega)
          go_wp2
          go_ret
          exact ⟨ret_bool hr.out.symm, hB⟩
    · have hv' : (a.v6 == p.a.v6) = false := by simp [hv]
      have hr : Hid (pcon p a = false) := by
        cases hc : pcon p a
        · exact rfl
        · exact absurd ((pcon_iff p a).1 hc).2.1 hv
      have Hs := Lib.hid hs
      clear hs hv
      go_enter Try.func86, Try.ntmps86
      go_wp2_with fail
      refine (rpsane_any p _).mono ?_
      rintro e w1 ⟨rfl, hw1⟩
      have zw1 := hw1.size
      have bw1 := below_of (w := w) (by go_grown) hw1
      try simp at zw1
      rw [Hs.out]
      obtain ⟨pa, pb, pc, pg, pd, pe, pf, ph, pz⟩ := cells4 (b := w.heap.size) hw1 (by go_size) (by go_simp <;> rfl) (by go_simp <;> rfl) (by go_simp <;> rfl) (by go_simp <;> rfl) (by go_simp <;> rfl) (by go_simp <;> rfl) (by go_simp <;> rfl) (by go_simp <;> rfl)
      obtain ⟨qa, qb, qc, qd, qe, qf, qz⟩ := cells3 (b := w.heap.size + 1) hw1 (by go_size) (by go_simp <;> rfl) (by go_simp <;> rfl) (by go_simp <;> rfl) (by go_simp <;> rfl) (by go_simp <;> rfl) (by go_simp <;> rfl)
      clear hw1
      go_wp2
      go_ret
      exact ⟨ret_bool hr.out.symm, bw1⟩

end Go.Proofs.Ytnepmlhbheaonaa

namespace Go.Proofs.Ytnepmlhbheaonaa
open Go.RowKit

set_option maxHeartbeats 400000 in
theorem rpcov_any (p q : Pf) (w : World) :
    Calls Try.prog 51 #[.agg #[.int .u64 (u p.a.hi), .int .u64 (u p.a.lo), .bool p.a.v6, .int .i64 p.n], .agg #[.int .u64 (u q.a.hi), .int .u64 (u q.a.lo), .bool q.a.v6, .int .i64 q.n]] w fun e w' => e = .returned (.bool (pcov p q)) ∧ Below w.heap.size w w' := by
  cases hs : psane q
  · have hr := Lib.hid (show pcov p q = false by unfold pcov; rw [hs]; rfl)
    have Hs := Lib.hid hs
    clear hs
    go_enter Try.func51, Try.ntmps51
    go_wp2_with fail
    refine (rpsane_any q _).mono ?_
    rintro e w1 ⟨rfl, hw1⟩
    have zw1 := hw1.size
    have bw1 := below_of (w := w) (by go_grown) hw1
    try simp at zw1
    rw [Hs.out]
    go_wp2
    go_ret
    exact ⟨ret_bool hr.out.symm, bw1⟩
  · by_cases hn : p.n ≤ q.n
    · have hn' : decide (p.n ≤ q.n) = true := by simp [hn]
      have hr := Lib.hid (show pcov p q = pcon p q.a by unfold pcov; rw [hs, hn']; rfl)
      have Hs := Lib.hid hs
      clear hs hn
      go_enter Try.func51, Try.ntmps51
      go_wp2_with fail
      refine (rpsane_any q _).mono ?_
      rintro e w1 ⟨rfl, hw1⟩
      have zw1 := hw1.size
      have bw1 := below_of (w := w) (by go_grown) hw1
      try simp at zw1
      rw [Hs.out]
      obtain ⟨pa, pb, pc, pg, pd, pe, pf, ph, pz⟩ := cells4 (b := w.heap.size) hw1 (by go_size) (by go_simp <;> rfl) (by go_simp <;> rfl) (by go_simp <;> rfl) (by go_simp <;> rfl) (by go_simp <;> rfl) (by go_simp <;> rfl) (by go_simp <;> rfl) (by go_simp <;> rfl)
      obtain ⟨qa, qb, qc, qg, qd, qe, qf, qh, qz⟩ := cells4 (b := w.heap.size + 1) hw1 (by go_size) (by go_simp <;> rfl) (by go_simp <;> rfl) (by go_simp <;> rfl) (by go_simp <;> rfl) (by go_simp <;> rfl) (by go_simp <;> rfl) (by go_simp <;> rfl) (by go_simp <;> rfl)
      clear hw1
      go_wp2_with fail
      refine (rpcon_any p q.a _).mono ?_
      rintro e w2 ⟨rfl, hw2⟩
      have zw2 := hw2.size
      have bw2 := below_of (w := w) (by go_grown) hw2
      try simp at zw2
      go_wp2
      go_ret
      exact ⟨ret_bool hr.out.symm, bw2⟩
    · have hn' : decide (p.n ≤ q.n) = false := by simp [hn]
      have hr := Lib.hid (show pcov p q = false by unfold pcov; rw [hs, hn']; rfl)
      have Hs := Lib.hid hs
      clear hs hn
      go_enter Try.func51, Try.ntmps51
      go_wp2_with fail
      refine (rpsane_any q _).mono ?_
      rintro e w1 ⟨rfl, hw1⟩
      have zw1 := hw1.size
      have bw1 := below_of (w := w) (by go_grown) hw1
      try simp at zw1
      rw [Hs.out]
      obtain ⟨pa, pb, pc, pg, pd, pe, pf, ph, pz⟩ := cells4 (b := w.heap.size) hw1 (by go_size) (by go_simp <;> rfl) (by go_simp <;> rfl) (by go_simp <;> rfl) (by go_simp <;> rfl) (by go_simp <;> rfl) (by go_simp <;> rfl) (by go_simp <;> rfl) (by go_simp <;> rfl)
      obtain ⟨qa, qb, qc, qg, qd, qe, qf, qh, qz⟩ := cells4 (b := w.heap.size + 1) hw1 (by go_size) (by go_simp <;> rfl) (by go_simp <;> rfl) (by go_simp <;> rfl) (by go_simp <;> rfl) (by go_simp <;> rfl) (by go_simp <;> rfl) (by go_simp <;> rfl) (by go_simp <;> rfl)
      clear hw1
      go_wp2
      go_ret
      exact ⟨ret_bool hr.out.symm, bw1⟩

set_option maxHeartbeats 400000 in
theorem rpins_any (p q : Pf) (w : World) :
    Calls Try.prog 100 #[.agg #[.int .u64 (u p.a.hi), .int .u64 (u p.a.lo), .bool p.a.v6, .int .i64 p.n], .agg #[.int .u64 (u q.a.hi), .int .u64 (u q.a.lo), .bool q.a.v6, .int .i64 q.n]] w fun e w' => e = .returned (.bool (pins p q)) ∧ Below w.heap.size w w' := by
  cases hs : pcov p q
  · have hr := Lib.hid (show pins p q = false by unfold pins; rw [hs]; rfl)
    have Hs := Lib.hid hs
    clear hs
    go_enter Try.func100, Try.ntmps100
    go_wp2_with fail
    refine (rpcov_any p q _).mono ?_
    rintro e w1 ⟨rfl, hw1⟩
    have zw1 := hw1.size
    have bw1 := below_of (w := w) (by go_grown) hw1
    try simp at zw1
    rw [Hs.out]
    go_wp2
    go_ret
    exact ⟨ret_bool hr.out.symm, bw1⟩
  · have hr := Lib.hid (show pins p q = decide (p.n < q.n) by unfold pins; rw [hs]; rfl)
    have Hs := Lib.hid hs
    clear hs
    go_enter Try.func100, Try.ntmps100
    go_wp2_with fail
    refine (rpcov_any p q _).mono ?_
    rintro e w1 ⟨rfl, hw1⟩
    have zw1 := hw1.size
    have bw1 := below_of (w := w) (by go_grown) hw1
    try simp at zw1
    rw [Hs.out]
    obtain ⟨pa, pb, pc, pg, pd, pe, pf, ph, pz⟩ := cells4 (b := w.heap.size) hw1 (by go_size) (by go_simp <;> rfl) (by go_simp <;> rfl) (by go_simp <;> rfl) (by go_simp <;> rfl) (by go_simp <;> rfl) (by go_simp <;> rfl) (by go_simp <;> rfl) (by go_simp <;> rfl)
    obtain ⟨qa, qb, qc, qg, qd, qe, qf, qh, qz⟩ := cells4 (b := w.heap.size + 1) hw1 (by go_size) (by go_simp <;> rfl) (by go_simp <;> rfl) (by go_simp <;> rfl) (by go_simp <;> rfl) (by go_simp <;> rfl) (by go_simp <;> rfl) (by go_simp <;> rfl) (by go_simp <;> rfl)
    clear hw1
    go_wp2
    go_ret
    exact ⟨ret_bool hr.out.symm, bw1⟩

end Go.Proofs.Ytnepmlhbheaonaa

namespace Go.Proofs.Ytnepmlhbheaonaa
set_option maxRecDepth 100000

theorem pof_128 (a : Ad) : pof a 128 = pof a (wid a.v6) := by
  have h : clamp a.v6 128 = clamp a.v6 (wid a.v6) := by
    unfold clamp wid
    cases a.v6 <;> decide
  unfold pof
  rw [h]
theorem above_con {L : List Pr} (h : Srt L) (a : Ad) : L.filter (fun x => pcov x.p (pof a 128)) = L.filter (fun x => pcon x.p a) := by
  rw [pof_128]
  exact List.filter_congr fun x hx => cov_full (h.1 x hx) a
theorem con_lt {x y : Pf} {a : Ad} (hx : pcon x a = true) (hy : pcon y a = true) (h : pcmp x y < 0) : x.n < y.n := by
  obtain ⟨x1, x2, x3⟩ := (pcon_iff x a).1 hx
  obtain ⟨y1, y2, y3⟩ := (pcon_iff y a).1 hy
  rcases Int.lt_or_le x.n y.n with e | e
  · exact e
  · have hc : pcov y x = true := (pcov_iff y x).2 ⟨y1, x1, e, by rw [← y2, x2], fun j hj => by rw [← x3 j (by omega), y3 j hj]⟩
    have h1 := cov_cmp hc
    have h2 := pcmp_anti x y
    omega
theorem srt_step {L : List Pr} (h : Srt L) {i : Nat} (hi : i + 1 < L.length) : pcmp L[i].p L[i + 1].p = -1 := by
  have h1 := List.pairwise_iff_getElem.1 h.2 i (i + 1) (by omega) hi (by omega)
  have h2 := (pcmp_bd L[i].p L[i + 1].p).1
  omega
theorem con_step {L : List Pr} (h : Srt L) (a : Ad) {i : Nat} (hi : i + 1 < (L.filter fun x => pcon x.p a).length) : (L.filter fun x => pcon x.p a)[i].p.n < (L.filter fun x => pcon x.p a)[i + 1].p.n := by
  have h1 := srt_step (filter_srt h _) hi
  have m1 := (List.mem_filter.1 (List.getElem_mem (Nat.lt_of_succ_lt hi))).2
  have m2 := (List.mem_filter.1 (List.getElem_mem hi)).2
  exact con_lt m1 m2 (by rw [h1]; decide)
/-- Of the pairs of a prefix: itself. -/
def selfL (p : Pf) (L : List Pr) : List Pr := match getQ p L with
  | none => []
  | some v => [⟨p, v⟩]
def kidsL (p : Pf) (L : List Pr) : List Pr := if (pchild p 1).2 = true then (L.filter fun x => pcov (pchild p 0).1 x.p) ++ (L.filter fun x => pcov (pchild p 1).1 x.p) else []
theorem mem_self {p : Pf} {L : List Pr} (h : Srt L) (x : Pr) : x ∈ selfL p L ↔ x ∈ L ∧ x.p = p := by
  unfold selfL getQ
  cases hp : psane p
  · simp only [Bool.false_eq_true, if_false, List.not_mem_nil, false_iff]
    rintro ⟨h1, rfl⟩
    rw [h.1 x h1] at hp
    cases hp
  · simp only [if_true]
    cases hl : lk L p with
    | none =>
      simp only [List.not_mem_nil, false_iff]
      rintro ⟨h1, rfl⟩
      rw [lk_some h h1] at hl
      cases hl
    | some v =>
      simp only [List.mem_singleton]
      constructor
      · rintro rfl
        exact ⟨lk_mem hl, rfl⟩
      · rintro ⟨h1, rfl⟩
        rw [lk_some h h1] at hl
        cases hl
        rfl
theorem self_len (p : Pf) (L : List Pr) : (selfL p L).length = if (getQ p L).isSome = true then 1 else 0 := by
  unfold selfL
  cases getQ p L <;> rfl
theorem child_no {p : Pf} (h : ¬ (pchild p 1).2 = true) : psane p = false ∨ wid p.a.v6 ≤ p.n := by
  cases hp : psane p
  · exact .inl rfl
  · right
    rcases Int.lt_or_le p.n (wid p.a.v6) with e | e
    · rw [child_eq p 1 hp e] at h
      exact absurd rfl h
    · exact e
theorem parts_eq {L : List Pr} (h : Srt L) (p : Pf) : selfL p L ++ kidsL p L = L.filter fun x => pcov p x.p := by
  have hself : Srt (selfL p L) := by
    refine ⟨fun x hx => h.1 x ((mem_self h x).1 hx).1, ?_⟩
    unfold selfL
    cases getQ p L <;> simp
  by_cases hc : (pchild p 1).2 = true
  · obtain ⟨hp, hlt, -⟩ := child_ok 1 hc
    have hk : kidsL p L = (L.filter fun x => pcov (pchild p 0).1 x.p) ++ (L.filter fun x => pcov (pchild p 1).1 x.p) := if_pos hc
    rw [hk]
    have sp : ∀ x ∈ L, (pcov p x.p = true ↔ x.p = p ∨ pcov (pchild p 0).1 x.p = true ∨ pcov (pchild p 1).1 x.p = true) := fun x hx => cov_split hp hlt (h.1 x hx)
    have pk : ∀ d : Int, (d = 0 ∨ d = 1) → ∀ y : Pf, pcov (pchild p d).1 y = true → pcmp p y < 0 := by
      intro d hd y hy
      have hce := child_eq p d hp hlt
      have hcv : pcov p y = true := by
        have hy' := (pcov_iff _ _).1 hy
        rcases hd with rfl | rfl
        · exact (cov_split hp hlt hy'.2.1).2 (.inr (.inl hy))
        · exact (cov_split hp hlt hy'.2.1).2 (.inr (.inr hy))
      have h1 := cov_cmp hcv
      have h2 := (pcov_iff _ _).1 hy
      rw [hce] at h2
      have h3 := h2.2.2.1
      simp only at h3
      have h4 : pcmp p y ≠ 0 := fun e => by
        have := (pcmp_eq hp h2.2.1).1 e
        rw [← this] at h3
        omega
      omega
    refine srt_ext ⟨fun x hx => ?_, ?_⟩ (filter_srt h _) (fun x => ?_)
    · rcases List.mem_append.1 hx with hx | hx
      · exact hself.1 x hx
      · rcases List.mem_append.1 hx with hx | hx
        · exact h.1 x (List.mem_filter.1 hx).1
        · exact h.1 x (List.mem_filter.1 hx).1
    · rw [List.pairwise_append, List.pairwise_append]
      refine ⟨hself.2, ⟨(filter_srt h _).2, (filter_srt h _).2, fun x hx y hy => ?_⟩, fun x hx y hy => ?_⟩
      · exact child_lt hp hlt (List.mem_filter.1 hx).2 (List.mem_filter.1 hy).2
      · rw [((mem_self h x).1 hx).2]
        rcases List.mem_append.1 hy with hy | hy
        · exact pk 0 (.inl rfl) _ (List.mem_filter.1 hy).2
        · exact pk 1 (.inr rfl) _ (List.mem_filter.1 hy).2
    · rw [List.mem_append, List.mem_append, List.mem_filter, List.mem_filter, List.mem_filter, mem_self h]
      constructor
      · rintro (⟨h1, h2⟩ | ⟨h1, h2⟩ | ⟨h1, h2⟩)
        · exact ⟨h1, (sp x h1).2 (.inl h2)⟩
        · exact ⟨h1, (sp x h1).2 (.inr (.inl h2))⟩
        · exact ⟨h1, (sp x h1).2 (.inr (.inr h2))⟩
      · rintro ⟨h1, h2⟩
        rcases (sp x h1).1 h2 with e | e | e
        · exact .inl ⟨h1, e⟩
        · exact .inr (.inl ⟨h1, e⟩)
        · exact .inr (.inr ⟨h1, e⟩)
  · have hk : kidsL p L = [] := if_neg hc
    rw [hk, List.append_nil]
    refine srt_ext hself (filter_srt h _) (fun x => ?_)
    rw [mem_self h, List.mem_filter]
    refine and_congr_right fun hx => ?_
    constructor
    · rintro rfl
      exact cov_refl _ (h.1 x hx)
    · intro hcv
      obtain ⟨k1, k2, k3, k4, k5⟩ := (pcov_iff _ _).1 hcv
      rcases child_no hc with e | e
      · rw [k1] at e
        cases e
      · have hb := (psane_bd k2).2
        have hn : p.n = x.p.n := by rw [← k4] at hb; omega
        exact (sane_ext k1 k2 hn k4 (fun j hj => (k5 j hj).symm)).symm
theorem ins_iff {L : List Pr} (h : Srt L) (p : Pf) : (L.any fun x => pins p x.p) = decide ((selfL p L).length < (L.filter fun x => pcov p x.p).length) := by
  rw [Bool.eq_iff_iff, List.any_eq_true, decide_eq_true_iff]
  have hpe := parts_eq h p
  have key : ∀ x ∈ L, (pins p x.p = true ↔ pcov p x.p = true ∧ x.p ≠ p) := by
    intro x hx
    constructor
    · intro hi
      have hcv : pcov p x.p = true := by
        unfold pins at hi
        simp only [Bool.and_eq_true] at hi
        first | exact hi.1 | exact hi.2
      refine ⟨hcv, fun e => ?_⟩
      rw [e, ins_self] at hi
      cases hi
    · rintro ⟨h1, h2⟩
      rw [ins_eq h1]
      cases he : pfEq p x.p
      · rfl
      · exact absurd ((pfEq_iff _ _).1 he).symm h2
  constructor
  · rintro ⟨x, hx, hi⟩
    obtain ⟨k1, k2⟩ := (key x hx).1 hi
    have hm : x ∈ L.filter fun x => pcov p x.p := List.mem_filter.2 ⟨hx, k1⟩
    rw [← hpe, List.mem_append] at hm
    rcases hm with hm | hm
    · exact absurd ((mem_self h x).1 hm).2 k2
    · have := List.length_pos_of_mem hm
      rw [← hpe, List.length_append]
      omega
  · intro hl
    rw [← hpe, List.length_append] at hl
    have hpos : 0 < (kidsL p L).length := by omega
    obtain ⟨x, hx⟩ := List.exists_mem_of_length_pos hpos
    have hm : x ∈ L.filter fun x => pcov p x.p := by rw [← hpe]; exact List.mem_append_right _ hx
    obtain ⟨m1, m2⟩ := List.mem_filter.1 hm
    refine ⟨x, m1, (key x m1).2 ⟨m2, fun e => ?_⟩⟩
    -- x is itself and among the kids: twice in a list in order
    have hs := filter_srt h (fun x => pcov p x.p)
    rw [← hpe] at hs
    have := (List.pairwise_append.1 hs.2).2.2 x ((mem_self h x).2 ⟨m1, e⟩) x hx
    rw [pcmp_self] at this
    omega

end Go.Proofs.Ytnepmlhbheaonaa

namespace Go.Proofs.Ytnepmlhbheaonaa
open Go.RowKit
set_option maxRecDepth 100000

set_option maxHeartbeats 1000000 in
theorem lawpair_any (x : Pr) (w : World) : Calls Try.prog 72 #[.agg #[.int .u64 (u x.p.a.hi), .int .u64 (u x.p.a.lo), .bool x.p.a.v6, .int .i64 x.p.n, .int .i64 x.v]] w fun e w' => e = .returned (.agg #[.int .u64 (u x.p.a.hi), .int .u64 (u x.p.a.lo), .bool x.p.a.v6, .int .i64 x.p.n, .int .i64 x.v]) ∧ Below w.heap.size w w' := by
  go_enter Try.func72, Try.ntmps72
  go_wp2
  refine bodyPost_ret (v := .agg #[.int .u64 (u x.p.a.hi), .int .u64 (u x.p.a.lo), .bool x.p.a.v6, .int .i64 x.p.n, .int .i64 x.v]) (by simp [*, results, Try.results72, go_sem] <;> rfl) rfl ⟨rfl, ?_⟩
  go_grown
/-- A fresh row of pairs of the document's kind. -/
def RefPost (w : World) (l : List Pr) (e : Ending) (w' : World) : Prop := ∃ v, e = .returned v ∧ w'.ownsRow w.heap.size 98 5 v l.length (prv l) ∧ Below w.heap.size w w'
theorem take_one (l : List Pr) {k : Nat} (h : k < l.length) : l.take (k + 1) = l.take k ++ [l[k]] := List.take_succ_eq_append_getElem h

set_option maxHeartbeats 2000000 in
theorem pairs_any (b0 : Nat) (v : Value) (l : List Pr) (w : World) (h : w.ownsRow b0 90 5 v l.length (prv l)) (hb : l.length ≤ 1000000000) :
    Calls Try.prog 39 #[v] w (RefPost w l) := by
  have H := Lib.hid h
  obtain ⟨A, c, rfl, -⟩ := own_val h
  clear h
  go_enter Try.func39, Try.ntmps39
  go_wp2_with fail
  go_loopw [3, 4] (fun o i wr => ∃ k : Nat, k ≤ l.length ∧ i = .int .i64 k ∧ wr.ownsRow w.heap.size 98 5 o k (prv (l.take k)) ∧ Below w.heap.size w wr) (fun _ i _ => l.length - (intOf i).toNat)
  case atStart => exact ⟨0, Nat.zero_le _, rfl, World.ownsRow_nil _ _ _ _, Below.refl _ _⟩
  case round =>
    obtain ⟨k, hk, rfl, hown, hB⟩ := hrel
    have HO := Lib.hid hown
    obtain ⟨A2, c2, rfl, -⟩ := own_val hown
    clear hown
    by_cases hlt : k < l.length
    · obtain ⟨g, cg, eg, -, -, hcc⟩ := row_cell (own_fresh H.out hB) rfl hlt
      simp only [Value.slice.injEq, true_and] at eg
      obtain ⟨rfl, rfl⟩ := eg
      have q0 : wr.cell? ⟨g, k * 5, none⟩ = some (.int .u64 (u l[k].p.a.hi)) := hcc 0 (by omega)
      have q1 : wr.cell? ⟨g, k * 5 + 1, none⟩ = some (.int .u64 (u l[k].p.a.lo)) := hcc 1 (by omega)
      have q2 : wr.cell? ⟨g, k * 5 + 2, none⟩ = some (.bool l[k].p.a.v6) := hcc 2 (by omega)
      have q3 : wr.cell? ⟨g, k * 5 + 3, none⟩ = some (.int .i64 l[k].p.n) := hcc 3 (by omega)
      have q4 : wr.cell? ⟨g, k * 5 + 4, none⟩ = some (.int .i64 l[k].v) := hcc 4 (by omega)
      have HT := Lib.hid (take_one l hlt)
      have hz := hB.size
      obtain ⟨y, hy⟩ : ∃ y, l[k] = y := ⟨_, rfl⟩
      rw [hy] at q0 q1 q2 q3 q4 HT
      have hlk : k ≤ 1000000000 ∧ k = (l.take k).length := by rw [List.length_take]; omega
      have HL := Lib.hid hlk
      clear hcc hy hlk
      go_wp2_with fail
      refine (lawpair_any y _).mono ?_
      rintro e w1 ⟨rfl, hw1⟩
      have b1 : Below w.heap.size w w1 := hB.trans (hw1.mono hz)
      have HO1 := Lib.hid (own_fresh HO.out hw1)
      have z1 := b1.size
      clear hw1 q0 q1 q2 q3 q4 HO
      go_wp2_with (
        at_builtin
        refine wpList_five1 five_ref rfl (.tmp 11) (.tmp 17) rfl w.heap.size _ k (l.take k) HL.out.2 (by rfl) (HO1.out.alloc _) w1.heap.size y (by rfl) (heap_alloc_new w1 _) HL.out.1 (by simp; omega) ?_
        intro v2 w2 ho2 hb2
        have b2 : Below w.heap.size w w2 := b1.trans (Below.trans (by go_grown) hb2)
        have HO2 := Lib.hid ho2
        obtain ⟨A5, c5, rfl, -⟩ := own_val ho2
        clear ho2 hb2
        )
      go_roundw
      case rel => exact ⟨k + 1, by omega, by go_num, by rw [HT.out]; exact HO2.out, b2⟩
      case measure => simp [intOf]; omega
    · obtain rfl : k = l.length := by omega
      have e := HO.out
      rw [List.take_length] at e
      have HE := Lib.hid e
      clear e
      have t1 : decide ((l.length : Int) < (l.length : Int)) = false := by simp
      go_wp2
      go_ret
      exact ⟨_, rfl, HE.out, hB⟩

set_option maxHeartbeats 2000000 in
theorem pairs_yes (b1 b2 : Nat) (v1 v2 : Value) (l : List Pr) (w : World) (h1 : w.ownsRow b1 98 5 v1 l.length (prv l)) (h2 : w.ownsRow b2 98 5 v2 l.length (prv l)) (hb : l.length ≤ 1000000000) :
    Calls Try.prog 38 #[v1, v2] w fun e w' => e = .returned (.bool true) ∧ Below w.heap.size w w' := by
  have H1 := Lib.hid h1
  have H2 := Lib.hid h2
  obtain ⟨A1, c1, rfl, -⟩ := own_val h1
  obtain ⟨A2, c2, rfl, -⟩ := own_val h2
  clear h1 h2
  go_enter Try.func38, Try.ntmps38
  go_wp2_with fail
  go_loopw [5] (fun i wr => ∃ k : Nat, k ≤ l.length ∧ i = .int .i64 k ∧ Below w.heap.size w wr) (fun i _ => l.length - (intOf i).toNat)
  case atStart => exact ⟨0, Nat.zero_le _, rfl, Below.refl _ _⟩
  case round =>
    obtain ⟨k, hk, rfl, hB⟩ := hrel
    by_cases hlt : k < l.length
    · have hlt' : (k : Int) < (l.length : Int) := by omega
      have hk0 : (0 : Int) ≤ (k : Int) := by omega
      have hk9 : (k : Int) + 1 ≤ 1000000000 := by omega
      obtain ⟨g, cg, eg, -, hg, hcc⟩ := row_cell (own_fresh H1.out hB) rfl hlt
      simp only [Value.slice.injEq, true_and] at eg
      obtain ⟨rfl, rfl⟩ := eg
      obtain ⟨g', cg', eg', -, hg', hcc'⟩ := row_cell (own_fresh H2.out hB) rfl hlt
      simp only [Value.slice.injEq, true_and] at eg'
      obtain ⟨rfl, rfl⟩ := eg'
      have a0 : wr.cell? ⟨g, k * 5, none⟩ = some (.int .u64 (u l[k].p.a.hi)) := hcc 0 (by omega)
      have a1 : wr.cell? ⟨g, k * 5 + 1, none⟩ = some (.int .u64 (u l[k].p.a.lo)) := hcc 1 (by omega)
      have a2 : wr.cell? ⟨g, k * 5 + 2, none⟩ = some (.bool l[k].p.a.v6) := hcc 2 (by omega)
      have a3 : wr.cell? ⟨g, k * 5 + 3, none⟩ = some (.int .i64 l[k].p.n) := hcc 3 (by omega)
      have a4 : wr.cell? ⟨g, k * 5 + 4, none⟩ = some (.int .i64 l[k].v) := hcc 4 (by omega)
      have b0 : wr.cell? ⟨g', k * 5, none⟩ = some (.int .u64 (u l[k].p.a.hi)) := hcc' 0 (by omega)
      have b1 : wr.cell? ⟨g', k * 5 + 1, none⟩ = some (.int .u64 (u l[k].p.a.lo)) := hcc' 1 (by omega)
      have b2 : wr.cell? ⟨g', k * 5 + 2, none⟩ = some (.bool l[k].p.a.v6) := hcc' 2 (by omega)
      have b3 : wr.cell? ⟨g', k * 5 + 3, none⟩ = some (.int .i64 l[k].p.n) := hcc' 3 (by omega)
      have b4 : wr.cell? ⟨g', k * 5 + 4, none⟩ = some (.int .i64 l[k].v) := hcc' 4 (by omega)
      clear hcc hcc'
      generalize l[k] = r at *
      obtain ⟨W, rfl⟩ : ∃ W, W = wr := ⟨_, rfl⟩
      have hz := hB.size
      have A0 := fun x : Later W.heap.size W => (x.cell (p := ⟨g, k * 5, none⟩) hg).trans a0
      have A1 := fun x : Later W.heap.size W => (x.cell (p := ⟨g, k * 5 + 1, none⟩) hg).trans a1
      have A2 := fun x : Later W.heap.size W => (x.cell (p := ⟨g, k * 5 + 2, none⟩) hg).trans a2
      have A3 := fun x : Later W.heap.size W => (x.cell (p := ⟨g, k * 5 + 3, none⟩) hg).trans a3
      have A4 := fun x : Later W.heap.size W => (x.cell (p := ⟨g, k * 5 + 4, none⟩) hg).trans a4
      have B0 := fun x : Later W.heap.size W => (x.cell (p := ⟨g', k * 5, none⟩) hg').trans b0
      have B1 := fun x : Later W.heap.size W => (x.cell (p := ⟨g', k * 5 + 1, none⟩) hg').trans b1
      have B2 := fun x : Later W.heap.size W => (x.cell (p := ⟨g', k * 5 + 2, none⟩) hg').trans b2
      have B3 := fun x : Later W.heap.size W => (x.cell (p := ⟨g', k * 5 + 3, none⟩) hg').trans b3
      have B4 := fun x : Later W.heap.size W => (x.cell (p := ⟨g', k * 5 + 4, none⟩) hg').trans b4
      clear a0 a1 a2 a3 a4 b0 b1 b2 b3 b4
      go_wp2_with fail
      refine region_later W.heap.size (by kernel_rfl) (by kernel_rfl) ?_
      repeat (go_big_quiet_step (fail))
      refine wpQuiet_nil ?_
      intro x
      have hx : Below w.heap.size w x.at := hB.trans (x.below.mono hz)
      clear A0 A1 A2 A3 A4 B0 B1 B2 B3 B4
      generalize x.at = w2 at *
      clear x
      go_wp2_with fail
      refine ⟨⟨k + 1, by omega, by go_num, hx⟩, by simp [intOf]; omega⟩
    · obtain rfl : k = l.length := by omega
      have hlt' : ¬ (l.length : Int) < (l.length : Int) := by omega
      go_wp2
      go_ret
      exact ⟨rfl, hB⟩

end Go.Proofs.Ytnepmlhbheaonaa

namespace Go.Proofs.Ytnepmlhbheaonaa
open Go.RowKit
set_option maxRecDepth 100000

/-- At the head of a round of things done: the tree holds what the first k of them leave; its blocks are from N on. -/
def PlayRel (w : World) (N t : Nat) (ls : List Ac) (P : World → Prop) (n : Value) (wr : World) : Prop :=
  ∃ (k : Nat) (S : Nat → Prop), k ≤ ls.length ∧ n = .int .i64 k ∧ Trie wr t S (playK ls k).1 (playK ls k).2 ∧ (playK ls k).2 ≤ 2 + 128 * k ∧ (∀ b, S b → N ≤ b) ∧ Below w.heap.size w wr ∧ N ≤ wr.heap.size ∧ P wr
theorem play_next {w0 wr w2 : World} {N t : Nat} {ls : List Ac} {k : Nat} {S S2 : Nat → Prop} (hk : k < ls.length) (hN : ∀ b, S b → N ≤ b) (hz : N ≤ wr.heap.size) (hN0 : w0.heap.size ≤ N) (hB : Below w0.heap.size w0 wr)
    (g1 : Trie w2 t S2 (doQ ls[k] (playK ls k).1) (doM ls[k] (playK ls k).1 (playK ls k).2)) (g2 : Frm S wr w2) (g3 : Sub S S2 wr.heap.size) (g4 : doM ls[k] (playK ls k).1 (playK ls k).2 ≤ (playK ls k).2 + 128) (hm : (playK ls k).2 ≤ 2 + 128 * k) :
    Trie w2 t S2 (playK ls (k + 1)).1 (playK ls (k + 1)).2 ∧ (playK ls (k + 1)).2 ≤ 2 + 128 * (k + 1) ∧ (∀ b, S2 b → N ≤ b) ∧ Below w0.heap.size w0 w2 ∧ N ≤ w2.heap.size ∧ Below N wr w2 := by
  have hbn : Below N wr w2 := g2.below hN hz
  rw [playK_succ ls k hk]
  refine ⟨g1, by simp only; omega, fun b hb => ?_, hB.trans (hbn.mono hN0), Nat.le_trans hz g2.size, hbn⟩
  rcases g3 b hb with e | e
  · exact hN b e
  · omega
theorem put_twice {L : List Pr} {p q : Pf} {v : Int} (hs : Srt L) (hp : psane p = true) : (putQ p v (putQ p v L)).length = (if (lk L p).isSome = true then L.length else L.length + 1) ∧ getQ p (putQ p v (putQ p v L)) = some v ∧ (q ≠ p → getQ q (putQ p v (putQ p v L)) = getQ q L) := by
  unfold putQ getQ
  simp only [hp, if_true]
  have hs1 := put_srt (v := v) hs hp
  refine ⟨?_, ?_, fun hq => ?_⟩
  · rw [put_len hs1 hp, lk_put hs hp p, if_pos rfl]
    simp only [Option.isSome_some, if_true]
    exact put_len hs hp
  · rw [lk_put hs1 hp p, if_pos rfl]
  · rw [lk_put hs1 hp q, if_neg hq, lk_put hs hp q, if_neg hq]

end Go.Proofs.Ytnepmlhbheaonaa

namespace Go.Proofs.Ytnepmlhbheaonaa
open Go.RowKit
set_option maxRecDepth 100000

/-- Of the first k those that a prefix covers. -/
def covK (L : List Pr) (p : Pf) (k : Nat) : List Pr := (L.take k).filter fun x => pcov p x.p
theorem covK_succ (L : List Pr) (p : Pf) {k : Nat} (h : k < L.length) : covK L p (k + 1) = covK L p k ++ if pcov p L[k].p = true then [L[k]] else [] := by
  unfold covK
  rw [List.take_succ_eq_append_getElem h, List.filter_append]
  congr 1
  by_cases hc : pcov p L[k].p = true
  · simp [hc]
  · simp [hc]
theorem covK_le (L : List Pr) (p : Pf) (k : Nat) : (covK L p k).length ≤ L.length := by
  unfold covK
  have h1 := List.length_filter_le (fun x : Pr => pcov p x.p) (L.take k)
  have h3 : (L.take k).length ≤ L.length := by rw [List.length_take]; omega
  omega
theorem covK_all (L : List Pr) (p : Pf) : covK L p L.length = L.filter fun x => pcov p x.p := by
  unfold covK
  rw [List.take_length]
theorem pairs_yes' (b1 b2 n : Nat) (v1 v2 : Value) (l : List Pr) (w : World) (hn : n = l.length) (h1 : w.ownsRow b1 98 5 v1 n (prv l)) (h2 : w.ownsRow b2 98 5 v2 n (prv l)) (hb : n ≤ 1000000000) :
    Calls Try.prog 38 #[v1, v2] w fun e w' => e = .returned (.bool true) ∧ Below w.heap.size w w' := by
  subst hn
  exact pairs_yes b1 b2 v1 v2 l w h1 h2 hb
theorem wpList_fives' {ops : Array Oper} {o : Oper} {a : Act} {w : World} {Q : Exit → Act → World → Prop} {E SL : TypeId} (F : Five E SL) {rest : List Oper} (hgd : o.guard = none) (s x : Operand) (ho : o.op = .call { callee := .builtin .append, args := #[s, x], argTypes := #[SL, SL] }) (base base' n n2 k : Nat) (v v2 : Value) (l m : List Pr) (hn : n = l.length) (hn2 : n2 = m.length) (hk : k = n + n2) (hs : a.eval s = v) (hx : a.eval x = v2) (hown : w.ownsRow base E 5 v n (prv l)) (h2 : w.ownsRow base' E 5 v2 n2 (prv m))
    (hb : n + n2 ≤ 1000000000) (hbase : base ≤ w.heap.size)
    (h : ∀ v' w', w'.ownsRow base E 5 v' k (prv (l ++ m)) → w.grownBy w' v.ownBlock → wpList Try.prog ops Q rest (a.put o.dst v') w') : wpList Try.prog ops Q (o :: rest) a w := by
  subst hn hn2 hk
  refine wpList_plain hgd fun _ hK => ?_
  obtain ⟨v', w', e1, e2, e3⟩ := fives_append F w base base' v v2 l m o.type hown h2 hb hbase
  rw [List.length_append] at e2
  unfold Oper.wp execOp
  simp only [ho, resolve, invoke, builtin, Sem.run_bind, Sem.run_pure, Result.andThen_ok, List.map_toArray, List.map_cons, List.map_nil, hs, hx, e1]
  exact hK _ _ (h v' w' e2 e3)
theorem grown_below {w w' : World} {base : Nat} {e : TypeId} {size n : Nat} {v : Value} {xs : List Value} (h : w.ownsRow base e size v n xs) (hg : w.grownBy w' v.ownBlock) (hb : base ≤ w.heap.size) : Below base w w' := (Below.refl base w).grown hg hb (own_ge h)
theorem PBox.grown {w w' : World} {b : Nat} {q : Pf} {row : Option Nat} (h : PBox w b q) (hg : w.grownBy w' row) (hn : row ≠ some b) : PBox w' b q :=
  h.frm (S := fun k => row = some k) ((Frm.refl _ w).grown hg (fun _ hk => .inl hk)) hn
def optL (p : Pf) : Option Int → List Pr
  | none => []
  | some v => [⟨p, v⟩]
theorem self_of {p : Pf} {L : List Pr} {G : Option Int} (h : getQ p L = G) : selfL p L = optL p G := by
  subst h
  unfold selfL optL
  cases getQ p L <;> rfl
theorem filt_le (L : List Pr) (f : Pr → Bool) (h : L.length ≤ 100000) : (L.filter f).length ≤ 100000 := by
  have := List.length_filter_le f L
  omega

set_option maxHeartbeats 8000000 in
theorem under_law (A : Option Addr) (cap : Nat) (ls : List Ac) (p : Pf) (w : World) (hr : RdA w A ls) :
    Calls Try.prog 12 #[.slice A ls.length cap, .agg #[.int .u64 (u p.a.hi), .int .u64 (u p.a.lo), .bool p.a.v6, .int .i64 p.n]] w fun e w' => e = .returned (.bool true) ∧ Below w.heap.size w w' := by
  have HR := Lib.hid hr
  clear hr
  by_cases hlen : 60 < ls.length
  · have t0 : decide ((60 : Int) < (ls.length : Int)) = true := by simp; omega
    go_enter Try.func12, Try.ntmps12
    go_wp2_with fail
    refine (awake5_any _).mono ?_
    rintro e w1 ⟨rfl, hw1⟩
    have b1 : Below w.heap.size w w1 := below_of (by go_grown) hw1
    go_wp2
    go_ret
    exact ⟨rfl, b1⟩
  · have t0 : decide ((60 : Int) < (ls.length : Int)) = false := by simp; omega
    go_enter Try.func12, Try.ntmps12
    go_wp2_with fail
    refine (awake5_any _).mono ?_
    rintro e w1 ⟨rfl, hw1⟩
    have b1 : Below w.heap.size w w1 := below_of (by go_grown) hw1
    have hP1 : PBox w1 w.heap.size p := PBox.keep (by exact ⟨by go_simp <;> rfl, by go_simp <;> rfl, by go_simp <;> rfl, by go_simp <;> rfl, by go_simp <;> rfl, by go_simp <;> rfl, by go_simp <;> rfl, by go_simp <;> rfl, by go_size⟩) hw1
    have HP1 := Lib.hid hP1
    have z1 : w.heap.size < w1.heap.size := hP1.2.2.2.2.2.2.2.2
    clear hw1 hP1
    go_wp2_with fail
    refine (trie_new _).mono ?_
    rintro e w3 ⟨t, S3, rfl, hT3, hb3, hS3⟩
    have HP3 := Lib.hid (HP1.out.keep hb3)
    have b3 : Below w.heap.size w w3 := b1.trans (hb3.mono b1.size)
    have n3 : ∀ b, S3 b → w.heap.size + 1 ≤ b := fun b hb => by have := hS3 b hb; omega
    have z3 : w.heap.size + 1 ≤ w3.heap.size := by have := hb3.size; omega
    have HT3 := Lib.hid hT3
    have HN3 := Lib.hid n3
    clear hT3 n3 hS3 hb3 HP1 b1
    go_wp2_with fail
    go_loopw [7] (fun n wr => PlayRel w (w.heap.size + 1) t ls (fun W => PBox W w.heap.size p) n wr) (fun n _ => ls.length - (intOf n).toNat)
    case atStart => exact ⟨0, S3, Nat.zero_le _, rfl, HT3.out, Nat.le_refl _, HN3.out, b3, z3, HP3.out⟩
    case round =>
      obtain ⟨k, S, hk, rfl, hT, hm, hN, hB, hz, hA⟩ := hrel
      have HT := Lib.hid hT
      have HN := Lib.hid hN
      have HP := Lib.hid hA
      clear hT hN hA HT3 HN3 HP3
      by_cases hlt : k < ls.length
      · obtain ⟨g, off, rfl, hg, hc⟩ := HR.out (by intro e; rw [e] at hlt; cases hlt)
        obtain ⟨c0, c1, c2, c3, c4, c5⟩ := hc k hlt
        have d0 := (hB.cell (p := ⟨g, off + k * 6, none⟩) hg).trans c0
        have d1 := (hB.cell (p := ⟨g, off + k * 6 + 1, none⟩) hg).trans c1
        have d2 := (hB.cell (p := ⟨g, off + k * 6 + 2, none⟩) hg).trans c2
        have d3 := (hB.cell (p := ⟨g, off + k * 6 + 3, none⟩) hg).trans c3
        have d4 := (hB.cell (p := ⟨g, off + k * 6 + 4, none⟩) hg).trans c4
        have d5 := (hB.cell (p := ⟨g, off + k * 6 + 5, none⟩) hg).trans c5
        clear c0 c1 c2 c3 c4 c5 hc
        obtain ⟨x, hx⟩ : ∃ x, ls[k] = x := ⟨_, rfl⟩
        rw [hx] at d0 d1 d2 d3 d4 d5
        have HXX := Lib.hid hx
        clear hx
        go_wp2_with fail
        refine (do_any HT.out (by omega) x).mono ?_
        rintro e w6 ⟨⟨rfl, S6, g1, g2, g3⟩, g4⟩
        rw [← HXX.out] at g1 g4
        obtain ⟨r1, r2, r3, r4, r5, r6⟩ := play_next hlt HN.out hz (by omega) hB g1 g2 g3 g4 hm
        have hQ1 := HP.out.frm g2 (fun e => by have := HN.out _ e; omega)
        have R1 := Lib.hid r1
        have R3 := Lib.hid r3
        clear g1 g2 g3 g4 r1 r3 r6 d0 d1 d2 d3 d4 d5
        go_wp2
        go_roundw
        case rel => exact ⟨k + 1, S6, by omega, by go_num, R1.out, r2, R3.out, r4, r5, hQ1⟩
        case measure => simp [intOf]; omega
      · have t1 : decide (k < ls.length) = false := by simp; omega
        have hM : (playK ls k).2 ≤ 20000 := by omega
        generalize (playK ls k).1 = L at HT
        generalize (playK ls k).2 = M at HT hM
        have hs := HT.out.srt
        have hln : L.length ≤ 100000 := by
          obtain ⟨T, -, hr, hl, -⟩ := HT.out
          have := rep_len hr
          omega
        have hpe := parts_eq hs p
        have hie := ins_iff hs p
        have hse := self_len p L
        have hul := fun q => filt_le L (fun x => pcov q x.p) hln
        obtain ⟨U, hU⟩ : ∃ U, L.filter (fun x => pcov p x.p) = U := ⟨_, rfl⟩
        rw [hU] at hpe hie
        have hUl : U.length ≤ 100000 := by rw [← hU]; exact hul p
        have HU := Lib.hid hU
        have HPE := Lib.hid hpe
        have HIE := Lib.hid hie
        have HSE := Lib.hid hse
        have HUL := Lib.hid hul
        have HS := Lib.hid hs
        obtain ⟨pa, pb, pc, pd, -⟩ := id HP.out
        clear hs hm HR b3 hpe hie hse hul hU
        -- m
        have c1 := trie_under HT.out p
        rw [HU.out] at c1
        have C1 := Lib.hid c1
        clear c1
        go_wp2_with fail
        refine C1.out.mono ?_
        rintro e w4 ⟨v4, rfl, ho4, hw4⟩
        have b4 := hB.trans (hw4.mono (by omega))
        have HT4 := Lib.hid (HT.out.keep hw4)
        have HP4 := Lib.hid (HP.out.keep hw4)
        have HO4 := Lib.hid ho4
        obtain ⟨A4, c4, rfl, -⟩ := own_val ho4
        clear hw4 ho4 HT HP C1 pa pb pc pd
        go_wp2_with fail
        refine (pairs_any _ _ U _ HO4.out (by omega)).mono ?_
        rintro e w5 ⟨v5, rfl, ho5, hw5⟩
        have b5 := b4.trans (hw5.mono b4.size)
        have HT5 := Lib.hid (HT4.out.keep hw5)
        have HP5 := Lib.hid (HP4.out.keep hw5)
        have HO5 := Lib.hid ho5
        obtain ⟨A5, c5, rfl, -⟩ := own_val ho5
        clear hw5 ho5 HT4 HP4 HO4
        -- d
        go_wp2_with fail
        refine (all_any HT5.out).mono ?_
        rintro e w6 ⟨v6, rfl, ho6, hw6⟩
        have b6 := b5.trans (hw6.mono b5.size)
        have HT6 := Lib.hid (HT5.out.keep hw6)
        have HP6 := Lib.hid (HP5.out.keep hw6)
        have HM6 := Lib.hid (own_fresh HO5.out hw6)
        have HO6 := Lib.hid ho6
        obtain ⟨A6, c6, rfl, -⟩ := own_val ho6
        clear hw6 ho6 HT5 HP5 HO5
        go_wp2_with fail
        refine (pairs_any _ _ L _ HO6.out (by omega)).mono ?_
        rintro e w7 ⟨v7, rfl, ho7, hw7⟩
        have b7 := b6.trans (hw7.mono b6.size)
        have HT7 := Lib.hid (HT6.out.keep hw7)
        have HP7 := Lib.hid (HP6.out.keep hw7)
        have HM7 := Lib.hid (own_fresh HM6.out hw7)
        have HO7 := Lib.hid ho7
        obtain ⟨A7, c7, rfl, -⟩ := own_val ho7
        have z7 := b7.size
        clear hw7 ho7 HT6 HP6 HM6 HO6 b4 b5 b6
        go_wp2_with fail
        go_loopw [9, 11] (fun o i wr => ∃ j : Nat, j ≤ L.length ∧ i = .int .i64 j ∧ wr.ownsRow w7.heap.size 98 5 o (covK L p j).length (prv (covK L p j)) ∧ Below w7.heap.size w7 wr) (fun _ i _ => L.length - (intOf i).toNat)
        case atStart => exact ⟨0, Nat.zero_le _, rfl, World.ownsRow_nil _ _ _ _, Below.refl _ _⟩
        case round =>
          obtain ⟨j, hj, rfl, hown, hB7⟩ := hrel
          have HOW := Lib.hid hown
          obtain ⟨A8, c8, rfl, -⟩ := own_val hown
          clear hown
          have hz7 := hB7.size
          by_cases hjl : j < L.length
          · have hcs := covK_succ L p hjl
            have hcl := covK_le L p j
            have tj : decide (j < L.length) = true := by simp; omega
            obtain ⟨pa, pb, pc, pd, -, -, -, -, pz⟩ := id (HP7.out.keep hB7)
            obtain ⟨g, cg, eg, -, zg, hcc⟩ := row_cell (own_fresh HO7.out hB7) rfl hjl
            simp only [Value.slice.injEq, true_and] at eg
            obtain ⟨rfl, rfl⟩ := eg
            have m0 : wr.cell? ⟨g, j * 5, none⟩ = some (.int .u64 (u L[j].p.a.hi)) := hcc 0 (by omega)
            have m1 : wr.cell? ⟨g, j * 5 + 1, none⟩ = some (.int .u64 (u L[j].p.a.lo)) := hcc 1 (by omega)
            have m2 : wr.cell? ⟨g, j * 5 + 2, none⟩ = some (.bool L[j].p.a.v6) := hcc 2 (by omega)
            have m3 : wr.cell? ⟨g, j * 5 + 3, none⟩ = some (.int .i64 L[j].p.n) := hcc 3 (by omega)
            have m4 : wr.cell? ⟨g, j * 5 + 4, none⟩ = some (.int .i64 L[j].v) := hcc 4 (by omega)
            clear hcc
            obtain ⟨y, hy⟩ : ∃ y, L[j] = y := ⟨_, rfl⟩
            rw [hy] at m0 m1 m2 m3 m4 hcs
            have HCS := Lib.hid hcs
            clear hy hcs
            obtain ⟨W, rfl⟩ : ∃ W, W = wr := ⟨_, rfl⟩
            have j0 : (0 : Int) ≤ (j : Int) := by omega
            have j1 : (j : Int) < (L.length : Int) := by omega
            have Lm0 := fun x : Later W.heap.size W => (x.cell (p := ⟨g, j * 5, none⟩) zg).trans m0
            have Lm1 := fun x : Later W.heap.size W => (x.cell (p := ⟨g, j * 5 + 1, none⟩) zg).trans m1
            have Lm2 := fun x : Later W.heap.size W => (x.cell (p := ⟨g, j * 5 + 2, none⟩) zg).trans m2
            have Lm3 := fun x : Later W.heap.size W => (x.cell (p := ⟨g, j * 5 + 3, none⟩) zg).trans m3
            have Lm4 := fun x : Later W.heap.size W => (x.cell (p := ⟨g, j * 5 + 4, none⟩) zg).trans m4
            have La := fun x : Later W.heap.size W => (x.cell pz).trans pa
            have Lb := fun x : Later W.heap.size W => (x.cell pz).trans pb
            have Lc := fun x : Later W.heap.size W => (x.cell pz).trans pc
            have Ld := fun x : Later W.heap.size W => (x.cell pz).trans pd
            clear pa pb pc pd
            go_wp2_with fail
            refine region_later W.heap.size (by kernel_rfl) (by kernel_rfl) ?_
            repeat (go_big_quiet_step ((go_at_call 51; exact later_of (Nat.le_refl _) (rpcov_any p y.p _))))
            refine wpQuiet_nil ?_
            intro x
            have hx := x.below
            generalize x.at = w8 at hx ⊢
            clear x Lm0 Lm1 Lm2 Lm3 Lm4 La Lb Lc Ld
            have b8 := hB7.trans (hx.mono hz7)
            have HO8 := Lib.hid (own_fresh HOW.out hx)
            have q0 := (hx.cell (p := ⟨g, j * 5, none⟩) zg).trans m0
            have q1 := (hx.cell (p := ⟨g, j * 5 + 1, none⟩) zg).trans m1
            have q2 := (hx.cell (p := ⟨g, j * 5 + 2, none⟩) zg).trans m2
            have q3 := (hx.cell (p := ⟨g, j * 5 + 3, none⟩) zg).trans m3
            have q4 := (hx.cell (p := ⟨g, j * 5 + 4, none⟩) zg).trans m4
            have z8 := b8.size
            clear hx m0 m1 m2 m3 m4 HOW hB7 hz7
            cases hc : pcov p y.p
            · have HCS' : Hid (covK L p (j + 1) = covK L p j) := by rw [HCS.out, hc]; exact Lib.hid (List.append_nil _)
              clear hc HCS q0 q1 q2 q3 q4
              go_wp2
              go_roundw
              case rel => exact ⟨j + 1, by omega, by go_num, by rw [HCS'.out]; exact HO8.out, b8⟩
              case measure => simp [intOf]; omega
            · have HCS' : Hid (covK L p (j + 1) = covK L p j ++ [y]) := by rw [HCS.out, hc]; exact Lib.hid rfl
              clear hc HCS
              go_wp2_with (
                at_builtin
                refine wpList_five1 five_ref rfl (.tmp 58) (.tmp 63) rfl w7.heap.size _ _ (covK L p j) rfl (by rfl) (HO8.out.alloc _) w8.heap.size y (by rfl) (heap_alloc_new w8 _) (by omega) (by simp; omega) ?_
                intro v2 w2 ho2 hb2
                have b2 : Below w7.heap.size w7 w2 := b8.trans (Below.trans (by go_grown) hb2)
                have HO2 := Lib.hid ho2
                obtain ⟨A9, c9, rfl, -⟩ := own_val ho2
                clear ho2 hb2
                )
              go_roundw
              case rel => exact ⟨j + 1, by omega, by go_num, by rw [HCS'.out, List.length_append]; exact HO2.out, b2⟩
              case measure => simp [intOf]; omega
          · obtain rfl : j = L.length := by omega
            have e1 := HOW.out
            rw [covK_all, HU.out] at e1
            have HWA := Lib.hid e1
            have tj : decide ((L.length : Int) < (L.length : Int)) = false := by simp
            have el : (covK L p L.length).length = U.length := by rw [covK_all, HU.out]
            rw [el]
            have b8 := b7.trans (hB7.mono z7)
            have HT8 := Lib.hid (HT7.out.keep hB7)
            have HP8 := Lib.hid (HP7.out.keep hB7)
            have HM8 := Lib.hid (own_fresh HM7.out hB7)
            obtain ⟨pa, pb, pc, pd, -⟩ := id HP8.out
            clear e1 el HOW HT7 HP7 HM7 hB7 HO7
            have c2 := trie_get HT8.out p
            obtain ⟨G, hG⟩ : ∃ G, getQ p L = G := ⟨_, rfl⟩
            have hSL := self_of hG
            rw [hG] at c2
            have C2 := Lib.hid c2
            have HSL := Lib.hid hSL
            clear c2 hG hSL
            go_wp2_with fail
            refine C2.out.mono ?_
            rintro e w9 ⟨rfl, hw9⟩
            have b9 := b8.trans (hw9.mono b8.size)
            have HT9 := Lib.hid (HT8.out.keep hw9)
            have HP9 := Lib.hid (HP8.out.keep hw9)
            have HM9 := Lib.hid (own_fresh HM8.out hw9)
            have HW9 := Lib.hid (own_fresh HWA.out hw9)
            clear hw9 HT8 HP8 HM8 HWA C2 pa pb pc pd
            obtain ⟨pa, pb, pc, pd, -⟩ := id HP9.out
            obtain ⟨NS, hNS⟩ : ∃ NS, (selfL p L).length = NS := ⟨_, rfl⟩
            have hns1 : NS ≤ 1 := by
              rw [← hNS, HSE.out]
              split <;> omega
            have hsn : NS = if G.isSome = true then 1 else 0 := by rw [← hNS, HSL.out]; cases G <;> rfl
            have HNS := Lib.hid hNS
            clear hNS
            obtain ⟨c0, hc0⟩ : ∃ c, (pchild p 0).1 = c := ⟨_, rfl⟩
            obtain ⟨c1, hc1⟩ : ∃ c, (pchild p 1).1 = c := ⟨_, rfl⟩
            obtain ⟨B0, hB0⟩ : ∃ B, (pchild p 0).2 = B := ⟨_, rfl⟩
            obtain ⟨B1, hB1⟩ : ∃ B, (pchild p 1).2 = B := ⟨_, rfl⟩
            have ck0 : ∀ W : World, Calls Try.prog 52 #[.agg #[.int .u64 (u p.a.hi), .int .u64 (u p.a.lo), .bool p.a.v6, .int .i64 p.n], .int .i64 0] W fun e w' => e = .returned (.tuple #[.agg #[.int .u64 (u c0.a.hi), .int .u64 (u c0.a.lo), .bool c0.a.v6, .int .i64 c0.n], .bool B0]) ∧ Below W.heap.size W w' := fun W => by
              have := pchild_any p 0 W
              rw [hc0, hB0] at this
              exact this
            have ck1 : ∀ W : World, Calls Try.prog 52 #[.agg #[.int .u64 (u p.a.hi), .int .u64 (u p.a.lo), .bool p.a.v6, .int .i64 p.n], .int .i64 1] W fun e w' => e = .returned (.tuple #[.agg #[.int .u64 (u c1.a.hi), .int .u64 (u c1.a.lo), .bool c1.a.v6, .int .i64 c1.n], .bool B1]) ∧ Below W.heap.size W w' := fun W => by
              have := pchild_any p 1 W
              rw [hc1, hB1] at this
              exact this
            have hkid : kidsL p L = if B1 = true then (L.filter fun x => pcov c0 x.p) ++ (L.filter fun x => pcov c1 x.p) else [] := by
              unfold kidsL
              rw [hc0, hc1, hB1]
            have CK0 := Lib.hid ck0
            have CK1 := Lib.hid ck1
            have HKID := Lib.hid hkid
            have HK0 := Lib.hid (HUL.out c0)
            have HK1 := Lib.hid (HUL.out c1)
            clear ck0 ck1 hkid hc0 hc1 hB0 hB1
            cases G with
            | none =>
              have hsl : selfL p L = [] := HSL.out
              have hN0 : NS = 0 := hsn
              have HSL' := Lib.hid hsl
              clear hsl hsn HSL
              subst hN0
              have hp9 : w9.ownsRow w9.heap.size 98 5 (.slice none 0 0) 0 (prv (selfL p L)) := by rw [HSL'.out]; exact World.ownsRow_nil _ _ _ _
              have HPR := Lib.hid hp9
              have bZ := Below.refl w9.heap.size w9
              clear hp9
              have bA := b9.trans (bZ.mono b9.size)
              have b9' := b9
              have HTa := Lib.hid (HT9.out.keep bZ)
              have HPa := Lib.hid (HP9.out.keep bZ)
              have HMa := Lib.hid (own_fresh HM9.out bZ)
              have HWa := Lib.hid (own_fresh HW9.out bZ)
              have z9a := bZ.size
              clear pa pb pc pd b9
              have hpl : ∀ b, (Value.ownBlock (.slice none 0 0)) = some b → b < (w9).heap.size := fun b hb => (HPR.out.lt b hb).2
              have HPL := Lib.hid hpl
              clear hpl
              obtain ⟨pa, pb, pc, pd, -⟩ := id HPa.out
              go_wp2_with fail
              refine (CK0.out _).mono ?_
              rintro e u1 ⟨rfl, hu1⟩
              have b1 := bA.trans (hu1.mono bA.size)
              have HTb := Lib.hid (HTa.out.keep hu1)
              have HPb := Lib.hid (HPa.out.keep hu1)
              have HMb := Lib.hid (own_fresh HMa.out hu1)
              have HWb := Lib.hid (own_fresh HWa.out hu1)
              have HRb := Lib.hid (own_fresh HPR.out hu1)
              have z1b := hu1.size
              have q1 := bZ.trans (hu1.mono bZ.size)
              have hpu : w.heap.size < u1.heap.size := HPb.out.2.2.2.2.2.2.2.2
              clear hu1 HTa HPa HMa HWa HPR pa pb pc pd
              obtain ⟨pa, pb, pc, pd, -⟩ := id HPb.out
              have hpn : ¬ w.heap.size = u1.heap.size := by omega
              go_wp2_with fail
              refine (CK1.out _).mono ?_
              rintro e u2 ⟨rfl, hu2⟩
              have bu : Below u1.heap.size u1 u2 := below_of (by go_grown) hu2
              have b2 := b1.trans (bu.mono b1.size)
              have q2 := q1.trans (bu.mono q1.size)
              have HTc := Lib.hid (HTb.out.keep bu)
              have HPc := Lib.hid (HPb.out.keep bu)
              have HMc := Lib.hid (own_fresh HMb.out bu)
              have HWc := Lib.hid (own_fresh HWb.out bu)
              have HRc := Lib.hid (own_fresh HRb.out bu)
              have hbx : PBox u2 u1.heap.size c0 := PBox.keep (by exact ⟨by go_simp <;> rfl, by go_simp <;> rfl, by go_simp <;> rfl, by go_simp <;> rfl, by go_simp <;> rfl, by go_simp <;> rfl, by go_simp <;> rfl, by go_simp <;> rfl, by go_size⟩) hu2
              have HXc := Lib.hid hbx
              have z2b : u1.heap.size < u2.heap.size := hbx.2.2.2.2.2.2.2.2
              clear hu2 bu hbx HTb HPb HMb HWb HRb pa pb pc pd
              obtain ⟨xa, xb, xc, xd, -⟩ := id HXc.out
              have hxn : ¬ u1.heap.size = u2.heap.size := by omega
              obtain ⟨bb, hbb⟩ : ∃ bb : Bool, decide (0 < U.length) = bb := ⟨_, rfl⟩
              have cI : ∀ W, Trie W t S L M → Calls Try.prog 47 #[.pointer (some ⟨t, 0, none⟩), .agg #[.int .u64 (u p.a.hi), .int .u64 (u p.a.lo), .bool p.a.v6, .int .i64 p.n]] W fun e w' => e = .returned (.bool bb) ∧ Below W.heap.size W w' := fun W hW => by
                have := trie_inside hW p
                rw [HIE.out, HNS.out, hbb] at this
                exact this
              have CI := Lib.hid cI
              clear cI
              cases B1 with
              | false =>
                have hk0 : kidsL p L = [] := HKID.out
                have e1 : selfL p L = U := by rw [← HPE.out, hk0, List.append_nil]
                have eN : U.length = 0 := by rw [← e1]; exact HNS.out
                have r1 := HRc.out
                rw [e1] at r1
                have r2 := HMc.out
                have r3 := HWc.out
                rw [eN] at r2 r3 hbb
                rw [eN]
                have EN := Lib.hid eN.symm
                have HRD := Lib.hid (r1.alloc (.cells #[.int .u64 (u c1.a.hi), .int .u64 (u c1.a.lo), .bool c1.a.v6, .int .i64 c1.n] 26))
                have HMD := Lib.hid (r2.alloc (.cells #[.int .u64 (u c1.a.hi), .int .u64 (u c1.a.lo), .bool c1.a.v6, .int .i64 c1.n] 26))
                have HWD := Lib.hid (r3.alloc (.cells #[.int .u64 (u c1.a.hi), .int .u64 (u c1.a.lo), .bool c1.a.v6, .int .i64 c1.n] 26))
                have bx : Below u2.heap.size u2 (u2.alloc (.cells #[.int .u64 (u c1.a.hi), .int .u64 (u c1.a.lo), .bool c1.a.v6, .int .i64 c1.n] 26)) := by go_grown
                have HTD := Lib.hid (HTc.out.keep bx)
                have HPD := Lib.hid (HPc.out.keep bx)
                have bD := b2.trans (bx.mono b2.size)
                have hb0 : bb = false := by rw [← hbb]; decide
                subst hb0
                clear hk0 e1 r1 r2 r3 eN HRc HMc HWc HTc HPc CK0 CK1 xa xb xc xd HXc bx hbb
                go_wp2_with fail
                refine (pairs_yes' _ _ 0 _ _ U _ (EN).out HMD.out HWD.out (by omega)).mono ?_
                rintro e f1 ⟨rfl, hf1⟩
                have b3 := bD.trans (hf1.mono bD.size)
                have HT3 := Lib.hid (HTD.out.keep hf1)
                have HP3 := Lib.hid (HPD.out.keep hf1)
                have HM3 := Lib.hid (own_fresh HMD.out hf1)
                have HR3 := Lib.hid (own_fresh HRD.out hf1)
                clear hf1 HTD HPD HMD HRD HWD
                go_wp2_with fail
                refine (pairs_yes' _ _ 0 _ _ U _ (EN).out HR3.out HM3.out (by omega)).mono ?_
                rintro e f2 ⟨rfl, hf2⟩
                have b4 := b3.trans (hf2.mono b3.size)
                have HT4 := Lib.hid (HT3.out.keep hf2)
                have HP4 := Lib.hid (HP3.out.keep hf2)
                clear hf2 HT3 HP3 HM3 HR3
                obtain ⟨pa, pb, pc, pd, -⟩ := id HP4.out
                go_wp2_with fail
                refine (CI.out _ HT4.out).mono ?_
                rintro e f3 ⟨rfl, hf3⟩
                have b5 := b4.trans (hf3.mono b4.size)
                clear hf3 pa pb pc pd
                go_wp2
                go_ret
                exact ⟨rfl, b5⟩
              | true =>
                have hk0 : kidsL p L = (L.filter fun x => pcov c0 x.p) ++ (L.filter fun x => pcov c1 x.p) := HKID.out
                have cu0 := fun W (hW : Trie W t S L M) => trie_under hW c0
                have cu1 := fun W (hW : Trie W t S L M) => trie_under hW c1
                have l0 := HK0.out
                have l1 := HK1.out
                obtain ⟨K0, hK0⟩ : ∃ K, (L.filter fun x => pcov c0 x.p) = K := ⟨_, rfl⟩
                obtain ⟨K1, hK1⟩ : ∃ K, (L.filter fun x => pcov c1 x.p) = K := ⟨_, rfl⟩
                rw [hK0] at hk0 cu0 l0
                rw [hK1] at hk0 cu1 l1
                have e1 : (selfL p L ++ K0) ++ K1 = U := by rw [← HPE.out, hk0, List.append_assoc]
                have eN : U.length = 0 + K0.length + K1.length := by rw [← e1, List.length_append, List.length_append, HNS.out]
                obtain ⟨n0, hn0⟩ : ∃ n0, n0 = 0 + K0.length := ⟨_, rfl⟩
                obtain ⟨n1, hn1⟩ : ∃ n1, n1 = n0 + K1.length := ⟨_, rfl⟩
                have eU : U.length = n1 := by omega
                have hsn : 0 = (selfL p L).length := HNS.out.symm
                have hn0' : n0 = (selfL p L ++ K0).length := by rw [List.length_append, ← hsn]; exact hn0
                have r2 := HMc.out
                have r3 := HWc.out
                rw [eU] at r2 r3 hbb
                rw [eU]
                have hn1b : n1 ≤ 100000 := by omega
                have tb1 : decide ((0 : Int) < (n1 : Int)) = bb := by rw [← hbb]; exact decide_eq_decide.2 (by omega)
                have EU := Lib.hid eU.symm
                have E1 := Lib.hid e1
                have HN0 := Lib.hid hn0
                have HN1 := Lib.hid hn1
                have HN0' := Lib.hid hn0'
                have HSN := Lib.hid hsn
                have CU0 := Lib.hid cu0
                have CU1 := Lib.hid cu1
                have HM2 := Lib.hid r2
                have HW2 := Lib.hid r3
                have hn0b : n0 ≤ 200000 := by omega
                clear hk0 cu0 cu1 hK0 hK1 e1 eN eU hsn hn0' hn0 hn1 r2 r3 CK0 CK1 HMc HWc
                go_wp2_with fail
                refine (CU0.out _ (HTc.out.keep (by go_grown))).mono ?_
                rintro e g1 ⟨v1, rfl, ho1, hg1⟩
                have bg1 : Below u2.heap.size u2 g1 := below_of (by go_grown) hg1
                have hbx1 : PBox g1 u2.heap.size c1 := PBox.keep (by exact ⟨by go_simp <;> rfl, by go_simp <;> rfl, by go_simp <;> rfl, by go_simp <;> rfl, by go_simp <;> rfl, by go_simp <;> rfl, by go_simp <;> rfl, by go_simp <;> rfl, by go_size⟩) hg1
                have HX1 := Lib.hid hbx1
                have HO1 := Lib.hid ho1
                obtain ⟨A1, d1, rfl, -⟩ := own_val ho1
                have HT1 := Lib.hid (HTc.out.keep bg1)
                have HP1' := Lib.hid (HPc.out.keep bg1)
                have HM1 := Lib.hid (own_fresh HM2.out bg1)
                have HW1 := Lib.hid (own_fresh HW2.out bg1)
                have HR1 := Lib.hid (own_fresh HRc.out bg1)
                have bq1 := b2.trans (bg1.mono b2.size)
                have q3 := q2.trans (bg1.mono q2.size)
                have zg1 := bg1.size
                clear hg1 ho1 hbx1 bg1 HTc HPc HM2 HW2 HRc HXc xa xb xc xd
                go_wp2_with fail
                refine (pairs_any _ _ K0 _ HO1.out (by omega)).mono ?_
                rintro e g2 ⟨v2, rfl, ho2, hg2⟩
                have HO2 := Lib.hid ho2
                obtain ⟨A2, d2, rfl, -⟩ := own_val ho2
                have HT2 := Lib.hid (HT1.out.keep hg2)
                have HP2' := Lib.hid (HP1'.out.keep hg2)
                have HM2 := Lib.hid (own_fresh HM1.out hg2)
                have HW2 := Lib.hid (own_fresh HW1.out hg2)
                have HR2 := Lib.hid (own_fresh HR1.out hg2)
                have HX2 := Lib.hid (HX1.out.keep hg2)
                have bq2 := bq1.trans (hg2.mono bq1.size)
                have q4 := q3.trans (hg2.mono q3.size)
                have zg2 := hg2.size
                clear hg2 ho2 HT1 HP1' HM1 HW1 HR1 HX1 HO1
                have z9u : w9.heap.size ≤ u2.heap.size := by omega
                have z3u : (w9).heap.size ≤ u2.heap.size := by omega
                clear HT2 HP2' HM2 HW2
                go_upto_region 27 with (
                  at_builtin
                  refine wpList_fives' five_ref rfl (.tmp 89) (.tmp 93) rfl w9.heap.size _ 0 K0.length n0 _ _ (selfL p L) K0 HSN.out rfl HN0.out (by rfl) (by rfl) HR2.out HO2.out (by omega) (by omega) ?_
                  intro v3 g3 ho3 hg3
                  have HR3 := Lib.hid ho3
                  have HX3 := Lib.hid (HX2.out.grown hg3 (fun e => by have := HPL.out _ e; omega))
                  have q5 := q4.trans (grown_below HR2.out hg3 q4.size)
                  have hpl3 : ∀ b, v3.ownBlock = some b → b < g3.heap.size := fun b hb => (ho3.lt b hb).2
                  have HPL3 := Lib.hid hpl3
                  obtain ⟨A3, d3, rfl, -⟩ := own_val ho3
                  clear ho3 hg3 hpl3 HR2 HO2 HX2
                  )
                have bq5 := b9'.trans (q5.mono b9'.size)
                have z5 := q5.size
                obtain ⟨xa, xb, xc, xd, -⟩ := id HX3.out
                go_wp2_with fail
                refine (CU1.out _ (HT9.out.keep q5)).mono ?_
                rintro e g4 ⟨v4, rfl, ho4, hg4⟩
                have HO4 := Lib.hid ho4
                obtain ⟨A4', d4, rfl, -⟩ := own_val ho4
                have HR4 := Lib.hid (own_fresh HR3.out hg4)
                have q6 := q5.trans (hg4.mono q5.size)
                clear ho4 hg4 HR3 xa xb xc xd HX3
                go_wp2_with fail
                refine (pairs_any _ _ K1 _ HO4.out (by omega)).mono ?_
                rintro e g5 ⟨v5, rfl, ho5, hg5⟩
                have HO5 := Lib.hid ho5
                obtain ⟨A5', d5, rfl, -⟩ := own_val ho5
                have HR5 := Lib.hid (own_fresh HR4.out hg5)
                have q7 := q6.trans (hg5.mono q6.size)
                have z7 := q7.size
                clear ho5 hg5 HR4 HO4
                go_upto_region 28 with (
                  at_builtin
                  refine wpList_fives' five_ref rfl (.tmp 95) (.tmp 99) rfl w9.heap.size _ n0 K1.length n1 _ _ (selfL p L ++ K0) K1 HN0'.out rfl HN1.out (by rfl) (by rfl) HR5.out HO5.out (by omega) (by omega) ?_
                  intro v6 g6 ho6 hg6
                  have HR6 := Lib.hid ho6
                  have q8 := q7.trans (grown_below HR5.out hg6 q7.size)
                  obtain ⟨A6', d6, rfl, -⟩ := own_val ho6
                  clear ho6 hg6 HR5 HO5
                  )
                have r1 := HR6.out
                rw [E1.out] at r1
                have HRD := Lib.hid r1
                have r2 := own_fresh HM9.out q8
                have r3 := own_fresh HW9.out q8
                rw [← EU.out] at r2 r3
                have HMD := Lib.hid r2
                have HWD := Lib.hid r3
                have HTD := Lib.hid (HT9.out.keep q8)
                have HPD := Lib.hid (HP9.out.keep q8)
                have bD := b9'.trans (q8.mono b9'.size)
                clear r1 r2 r3 HR6
                go_wp2_with fail
                refine (pairs_yes' _ _ n1 _ _ U _ (EU).out HMD.out HWD.out (by omega)).mono ?_
                rintro e f1 ⟨rfl, hf1⟩
                have b3 := bD.trans (hf1.mono bD.size)
                have HT3 := Lib.hid (HTD.out.keep hf1)
                have HP3 := Lib.hid (HPD.out.keep hf1)
                have HM3 := Lib.hid (own_fresh HMD.out hf1)
                have HR3 := Lib.hid (own_fresh HRD.out hf1)
                clear hf1 HTD HPD HMD HRD HWD
                go_wp2_with fail
                refine (pairs_yes' _ _ n1 _ _ U _ (EU).out HR3.out HM3.out (by omega)).mono ?_
                rintro e f2 ⟨rfl, hf2⟩
                have b4 := b3.trans (hf2.mono b3.size)
                have HT4 := Lib.hid (HT3.out.keep hf2)
                have HP4 := Lib.hid (HP3.out.keep hf2)
                clear hf2 HT3 HP3 HM3 HR3
                obtain ⟨pa, pb, pc, pd, -⟩ := id HP4.out
                go_wp2_with fail
                refine (CI.out _ HT4.out).mono ?_
                rintro e f3 ⟨rfl, hf3⟩
                have b5 := b4.trans (hf3.mono b4.size)
                clear hf3 pa pb pc pd
                go_wp2
                go_ret
                exact ⟨rfl, b5⟩
            | some v =>
              have hsl : selfL p L = [⟨p, v⟩] := HSL.out
              have hN0 : NS = 1 := hsn
              have HSL' := Lib.hid hsl
              clear hsl hsn HSL
              subst hN0
              go_upto_region 23 with (
                at_builtin
                refine wpList_five1 five_ref rfl (.tmp 72) (.tmp 76) rfl w9.heap.size _ 0 [] rfl (by rfl) (World.ownsRow_nil _ _ _ _) w9.heap.size ⟨p, v⟩ (by rfl) (heap_alloc_new w9 _) (by omega) (by simp) ?_
                intro v2 w10 ho2 hb2
                have b29 : Below w9.heap.size w9 w10 := Below.trans (by go_grown) hb2
                have HO2 := Lib.hid ho2
                obtain ⟨A10, c10, rfl, -⟩ := own_val ho2
                clear ho2 hb2
                )
              have hp9 : w10.ownsRow w9.heap.size 98 5 (.slice A10 1 c10) 1 (prv (selfL p L)) := by rw [HSL'.out]; exact HO2.out
              have HPR := Lib.hid hp9
              have bZ := b29
              clear hp9 HO2 b29
              have bA := b9.trans (bZ.mono b9.size)
              have b9' := b9
              have HTa := Lib.hid (HT9.out.keep bZ)
              have HPa := Lib.hid (HP9.out.keep bZ)
              have HMa := Lib.hid (own_fresh HM9.out bZ)
              have HWa := Lib.hid (own_fresh HW9.out bZ)
              have z9a := bZ.size
              clear pa pb pc pd b9
              have hpl : ∀ b, (Value.ownBlock (.slice A10 1 c10)) = some b → b < (w10).heap.size := fun b hb => (HPR.out.lt b hb).2
              have HPL := Lib.hid hpl
              clear hpl
              obtain ⟨pa, pb, pc, pd, -⟩ := id HPa.out
              go_wp2_with fail
              refine (CK0.out _).mono ?_
              rintro e u1 ⟨rfl, hu1⟩
              have b1 := bA.trans (hu1.mono bA.size)
              have HTb := Lib.hid (HTa.out.keep hu1)
              have HPb := Lib.hid (HPa.out.keep hu1)
              have HMb := Lib.hid (own_fresh HMa.out hu1)
              have HWb := Lib.hid (own_fresh HWa.out hu1)
              have HRb := Lib.hid (own_fresh HPR.out hu1)
              have z1b := hu1.size
              have q1 := bZ.trans (hu1.mono bZ.size)
              have hpu : w.heap.size < u1.heap.size := HPb.out.2.2.2.2.2.2.2.2
              clear hu1 HTa HPa HMa HWa HPR pa pb pc pd
              obtain ⟨pa, pb, pc, pd, -⟩ := id HPb.out
              have hpn : ¬ w.heap.size = u1.heap.size := by omega
              go_wp2_with fail
              refine (CK1.out _).mono ?_
              rintro e u2 ⟨rfl, hu2⟩
              have bu : Below u1.heap.size u1 u2 := below_of (by go_grown) hu2
              have b2 := b1.trans (bu.mono b1.size)
              have q2 := q1.trans (bu.mono q1.size)
              have HTc := Lib.hid (HTb.out.keep bu)
              have HPc := Lib.hid (HPb.out.keep bu)
              have HMc := Lib.hid (own_fresh HMb.out bu)
              have HWc := Lib.hid (own_fresh HWb.out bu)
              have HRc := Lib.hid (own_fresh HRb.out bu)
              have hbx : PBox u2 u1.heap.size c0 := PBox.keep (by exact ⟨by go_simp <;> rfl, by go_simp <;> rfl, by go_simp <;> rfl, by go_simp <;> rfl, by go_simp <;> rfl, by go_simp <;> rfl, by go_simp <;> rfl, by go_simp <;> rfl, by go_size⟩) hu2
              have HXc := Lib.hid hbx
              have z2b : u1.heap.size < u2.heap.size := hbx.2.2.2.2.2.2.2.2
              clear hu2 bu hbx HTb HPb HMb HWb HRb pa pb pc pd
              obtain ⟨xa, xb, xc, xd, -⟩ := id HXc.out
              have hxn : ¬ u1.heap.size = u2.heap.size := by omega
              obtain ⟨bb, hbb⟩ : ∃ bb : Bool, decide (1 < U.length) = bb := ⟨_, rfl⟩
              have cI : ∀ W, Trie W t S L M → Calls Try.prog 47 #[.pointer (some ⟨t, 0, none⟩), .agg #[.int .u64 (u p.a.hi), .int .u64 (u p.a.lo), .bool p.a.v6, .int .i64 p.n]] W fun e w' => e = .returned (.bool bb) ∧ Below W.heap.size W w' := fun W hW => by
                have := trie_inside hW p
                rw [HIE.out, HNS.out, hbb] at this
                exact this
              have CI := Lib.hid cI
              clear cI
              cases B1 with
              | false =>
                have hk0 : kidsL p L = [] := HKID.out
                have e1 : selfL p L = U := by rw [← HPE.out, hk0, List.append_nil]
                have eN : U.length = 1 := by rw [← e1]; exact HNS.out
                have r1 := HRc.out
                rw [e1] at r1
                have r2 := HMc.out
                have r3 := HWc.out
                rw [eN] at r2 r3 hbb
                rw [eN]
                have EN := Lib.hid eN.symm
                have HRD := Lib.hid (r1.alloc (.cells #[.int .u64 (u c1.a.hi), .int .u64 (u c1.a.lo), .bool c1.a.v6, .int .i64 c1.n] 26))
                have HMD := Lib.hid (r2.alloc (.cells #[.int .u64 (u c1.a.hi), .int .u64 (u c1.a.lo), .bool c1.a.v6, .int .i64 c1.n] 26))
                have HWD := Lib.hid (r3.alloc (.cells #[.int .u64 (u c1.a.hi), .int .u64 (u c1.a.lo), .bool c1.a.v6, .int .i64 c1.n] 26))
                have bx : Below u2.heap.size u2 (u2.alloc (.cells #[.int .u64 (u c1.a.hi), .int .u64 (u c1.a.lo), .bool c1.a.v6, .int .i64 c1.n] 26)) := by go_grown
                have HTD := Lib.hid (HTc.out.keep bx)
                have HPD := Lib.hid (HPc.out.keep bx)
                have bD := b2.trans (bx.mono b2.size)
                have hb0 : bb = false := by rw [← hbb]; decide
                subst hb0
                clear hk0 e1 r1 r2 r3 eN HRc HMc HWc HTc HPc CK0 CK1 xa xb xc xd HXc bx hbb
                go_wp2_with fail
                refine (pairs_yes' _ _ 1 _ _ U _ (EN).out HMD.out HWD.out (by omega)).mono ?_
                rintro e f1 ⟨rfl, hf1⟩
                have b3 := bD.trans (hf1.mono bD.size)
                have HT3 := Lib.hid (HTD.out.keep hf1)
                have HP3 := Lib.hid (HPD.out.keep hf1)
                have HM3 := Lib.hid (own_fresh HMD.out hf1)
                have HR3 := Lib.hid (own_fresh HRD.out hf1)
                clear hf1 HTD HPD HMD HRD HWD
                go_wp2_with fail
                refine (pairs_yes' _ _ 1 _ _ U _ (EN).out HR3.out HM3.out (by omega)).mono ?_
                rintro e f2 ⟨rfl, hf2⟩
                have b4 := b3.trans (hf2.mono b3.size)
                have HT4 := Lib.hid (HT3.out.keep hf2)
                have HP4 := Lib.hid (HP3.out.keep hf2)
                clear hf2 HT3 HP3 HM3 HR3
                obtain ⟨pa, pb, pc, pd, -⟩ := id HP4.out
                go_wp2_with fail
                refine (CI.out _ HT4.out).mono ?_
                rintro e f3 ⟨rfl, hf3⟩
                have b5 := b4.trans (hf3.mono b4.size)
                clear hf3 pa pb pc pd
                go_wp2
                go_ret
                exact ⟨rfl, b5⟩
              | true =>
                have hk0 : kidsL p L = (L.filter fun x => pcov c0 x.p) ++ (L.filter fun x => pcov c1 x.p) := HKID.out
                have cu0 := fun W (hW : Trie W t S L M) => trie_under hW c0
                have cu1 := fun W (hW : Trie W t S L M) => trie_under hW c1
                have l0 := HK0.out
                have l1 := HK1.out
                obtain ⟨K0, hK0⟩ : ∃ K, (L.filter fun x => pcov c0 x.p) = K := ⟨_, rfl⟩
                obtain ⟨K1, hK1⟩ : ∃ K, (L.filter fun x => pcov c1 x.p) = K := ⟨_, rfl⟩
                rw [hK0] at hk0 cu0 l0
                rw [hK1] at hk0 cu1 l1
                have e1 : (selfL p L ++ K0) ++ K1 = U := by rw [← HPE.out, hk0, List.append_assoc]
                have eN : U.length = 1 + K0.length + K1.length := by rw [← e1, List.length_append, List.length_append, HNS.out]
                obtain ⟨n0, hn0⟩ : ∃ n0, n0 = 1 + K0.length := ⟨_, rfl⟩
                obtain ⟨n1, hn1⟩ : ∃ n1, n1 = n0 + K1.length := ⟨_, rfl⟩
                have eU : U.length = n1 := by omega
                have hsn : 1 = (selfL p L).length := HNS.out.symm
                have hn0' : n0 = (selfL p L ++ K0).length := by rw [List.length_append, ← hsn]; exact hn0
                have r2 := HMc.out
                have r3 := HWc.out
                rw [eU] at r2 r3 hbb
                rw [eU]
                have hn1b : n1 ≤ 100000 := by omega
                have tb1 : decide ((1 : Int) < (n1 : Int)) = bb := by rw [← hbb]; exact decide_eq_decide.2 (by omega)
                have EU := Lib.hid eU.symm
                have E1 := Lib.hid e1
                have HN0 := Lib.hid hn0
                have HN1 := Lib.hid hn1
                have HN0' := Lib.hid hn0'
                have HSN := Lib.hid hsn
                have CU0 := Lib.hid cu0
                have CU1 := Lib.hid cu1
                have HM2 := Lib.hid r2
                have HW2 := Lib.hid r3
                have hn0b : n0 ≤ 200000 := by omega
                clear hk0 cu0 cu1 hK0 hK1 e1 eN eU hsn hn0' hn0 hn1 r2 r3 CK0 CK1 HMc HWc
                go_wp2_with fail
                refine (CU0.out _ (HTc.out.keep (by go_grown))).mono ?_
                rintro e g1 ⟨v1, rfl, ho1, hg1⟩
                have bg1 : Below u2.heap.size u2 g1 := below_of (by go_grown) hg1
                have hbx1 : PBox g1 u2.heap.size c1 := PBox.keep (by exact ⟨by go_simp <;> rfl, by go_simp <;> rfl, by go_simp <;> rfl, by go_simp <;> rfl, by go_simp <;> rfl, by go_simp <;> rfl, by go_simp <;> rfl, by go_simp <;> rfl, by go_size⟩) hg1
                have HX1 := Lib.hid hbx1
                have HO1 := Lib.hid ho1
                obtain ⟨A1, d1, rfl, -⟩ := own_val ho1
                have HT1 := Lib.hid (HTc.out.keep bg1)
                have HP1' := Lib.hid (HPc.out.keep bg1)
                have HM1 := Lib.hid (own_fresh HM2.out bg1)
                have HW1 := Lib.hid (own_fresh HW2.out bg1)
                have HR1 := Lib.hid (own_fresh HRc.out bg1)
                have bq1 := b2.trans (bg1.mono b2.size)
                have q3 := q2.trans (bg1.mono q2.size)
                have zg1 := bg1.size
                clear hg1 ho1 hbx1 bg1 HTc HPc HM2 HW2 HRc HXc xa xb xc xd
                go_wp2_with fail
                refine (pairs_any _ _ K0 _ HO1.out (by omega)).mono ?_
                rintro e g2 ⟨v2, rfl, ho2, hg2⟩
                have HO2 := Lib.hid ho2
                obtain ⟨A2, d2, rfl, -⟩ := own_val ho2
                have HT2 := Lib.hid (HT1.out.keep hg2)
                have HP2' := Lib.hid (HP1'.out.keep hg2)
                have HM2 := Lib.hid (own_fresh HM1.out hg2)
                have HW2 := Lib.hid (own_fresh HW1.out hg2)
                have HR2 := Lib.hid (own_fresh HR1.out hg2)
                have HX2 := Lib.hid (HX1.out.keep hg2)
                have bq2 := bq1.trans (hg2.mono bq1.size)
                have q4 := q3.trans (hg2.mono q3.size)
                have zg2 := hg2.size
                clear hg2 ho2 HT1 HP1' HM1 HW1 HR1 HX1 HO1
                have z9u : w9.heap.size ≤ u2.heap.size := by omega
                have z3u : (w10).heap.size ≤ u2.heap.size := by omega
                clear HT2 HP2' HM2 HW2
                go_upto_region 27 with (
                  at_builtin
                  refine wpList_fives' five_ref rfl (.tmp 89) (.tmp 93) rfl w9.heap.size _ 1 K0.length n0 _ _ (selfL p L) K0 HSN.out rfl HN0.out (by rfl) (by rfl) HR2.out HO2.out (by omega) (by omega) ?_
                  intro v3 g3 ho3 hg3
                  have HR3 := Lib.hid ho3
                  have HX3 := Lib.hid (HX2.out.grown hg3 (fun e => by have := HPL.out _ e; omega))
                  have q5 := q4.trans (grown_below HR2.out hg3 q4.size)
                  have hpl3 : ∀ b, v3.ownBlock = some b → b < g3.heap.size := fun b hb => (ho3.lt b hb).2
                  have HPL3 := Lib.hid hpl3
                  obtain ⟨A3, d3, rfl, -⟩ := own_val ho3
                  clear ho3 hg3 hpl3 HR2 HO2 HX2
                  )
                have bq5 := b9'.trans (q5.mono b9'.size)
                have z5 := q5.size
                obtain ⟨xa, xb, xc, xd, -⟩ := id HX3.out
                go_wp2_with fail
                refine (CU1.out _ (HT9.out.keep q5)).mono ?_
                rintro e g4 ⟨v4, rfl, ho4, hg4⟩
                have HO4 := Lib.hid ho4
                obtain ⟨A4', d4, rfl, -⟩ := own_val ho4
                have HR4 := Lib.hid (own_fresh HR3.out hg4)
                have q6 := q5.trans (hg4.mono q5.size)
                clear ho4 hg4 HR3 xa xb xc xd HX3
                go_wp2_with fail
                refine (pairs_any _ _ K1 _ HO4.out (by omega)).mono ?_
                rintro e g5 ⟨v5, rfl, ho5, hg5⟩
                have HO5 := Lib.hid ho5
                obtain ⟨A5', d5, rfl, -⟩ := own_val ho5
                have HR5 := Lib.hid (own_fresh HR4.out hg5)
                have q7 := q6.trans (hg5.mono q6.size)
                have z7 := q7.size
                clear ho5 hg5 HR4 HO4
                go_upto_region 28 with (
                  at_builtin
                  refine wpList_fives' five_ref rfl (.tmp 95) (.tmp 99) rfl w9.heap.size _ n0 K1.length n1 _ _ (selfL p L ++ K0) K1 HN0'.out rfl HN1.out (by rfl) (by rfl) HR5.out HO5.out (by omega) (by omega) ?_
                  intro v6 g6 ho6 hg6
                  have HR6 := Lib.hid ho6
                  have q8 := q7.trans (grown_below HR5.out hg6 q7.size)
                  obtain ⟨A6', d6, rfl, -⟩ := own_val ho6
                  clear ho6 hg6 HR5 HO5
                  )
                have r1 := HR6.out
                rw [E1.out] at r1
                have HRD := Lib.hid r1
                have r2 := own_fresh HM9.out q8
                have r3 := own_fresh HW9.out q8
                rw [← EU.out] at r2 r3
                have HMD := Lib.hid r2
                have HWD := Lib.hid r3
                have HTD := Lib.hid (HT9.out.keep q8)
                have HPD := Lib.hid (HP9.out.keep q8)
                have bD := b9'.trans (q8.mono b9'.size)
                clear r1 r2 r3 HR6
                go_wp2_with fail
                refine (pairs_yes' _ _ n1 _ _ U _ (EU).out HMD.out HWD.out (by omega)).mono ?_
                rintro e f1 ⟨rfl, hf1⟩
                have b3 := bD.trans (hf1.mono bD.size)
                have HT3 := Lib.hid (HTD.out.keep hf1)
                have HP3 := Lib.hid (HPD.out.keep hf1)
                have HM3 := Lib.hid (own_fresh HMD.out hf1)
                have HR3 := Lib.hid (own_fresh HRD.out hf1)
                clear hf1 HTD HPD HMD HRD HWD
                go_wp2_with fail
                refine (pairs_yes' _ _ n1 _ _ U _ (EU).out HR3.out HM3.out (by omega)).mono ?_
                rintro e f2 ⟨rfl, hf2⟩
                have b4 := b3.trans (hf2.mono b3.size)
                have HT4 := Lib.hid (HT3.out.keep hf2)
                have HP4 := Lib.hid (HP3.out.keep hf2)
                clear hf2 HT3 HP3 HM3 HR3
                obtain ⟨pa, pb, pc, pd, -⟩ := id HP4.out
                go_wp2_with fail
                refine (CI.out _ HT4.out).mono ?_
                rintro e f3 ⟨rfl, hf3⟩
                have b5 := b4.trans (hf3.mono b4.size)
                clear hf3 pa pb pc pd
                go_wp2
                go_ret
                exact ⟨rfl, b5⟩

end Go.Proofs.Ytnepmlhbheaonaa

namespace Go.Proofs.Ytnepmlhbheaonaa
open Go.ChangeShapes Go.WideShapes Go.ChangeAt Go.RowKit

set_option maxRecDepth 100000 in
theorem trieUnder_lifted (os : Os) (started : os.Started) (H : Type) (enc : TypeId × Value → H) :
    ReturnsInHanded {} Try.checked os 12 .any (Rows.trieUnderSpec.pre6 enc Try.prog Try.f12 Rows.trieUnderRow.domain false) (Rows.trieUnderSpec.post enc Try.prog Try.f12 false true false false) := by
  refine returnsInHanded_of_change (C := Try.checked) own started (by kernel_rfl) Try.func12
    (ChangeSpec.witness6 (enc := enc) (C := Try.checked) false ⟨#[], #[.slice none 0 0, .agg #[.int .u64 0, .int .u64 0, .bool false, .int .i64 0]], []⟩ 8 (by kernel_rfl) (by kernel_rfl) (by kernel_rfl) (by kernel_rfl)) ?_
  intro W base args ds gs before hval0 hW hcnd _
  have hval : ∀ (j : Nat) t v, Try.f12.params[j]? = some t → args[j]? = some v → Value.okWide Try.prog W .any base t v := hval0
  have hW' := hW
  obtain ⟨p, q, hA0, hV, rfl, hfz, hnd⟩ := hW
  have hA : DataW.TrodAll enc Try.prog W 0 (fun _ => true) true Try.f12.params.toList args.toList ds p := hA0
  rw [Try.params12] at hA hval
  obtain ⟨v0, vs0, d0, ds0, p0, q0, hargs, rfl, rfl, h0, r0⟩ := trodAll_cons hA
  obtain ⟨v1, vs1, d1, ds1, p1, q1, rfl, rfl, rfl, h1, r1⟩ := trodAll_cons r0
  obtain ⟨rfl, rfl, rfl⟩ := trodAll_nil r1
  obtain rfl : args = #[v0, v1] := by cases args; simp_all
  obtain ⟨rfl, rfl⟩ := trodVars_none hV
  have lt0 : ∀ x ∈ p0, x.block < W.heap.size := by obtain ⟨m, hm⟩ := h0; exact DataW.trod_lt m _ _ _ hm
  obtain ⟨A0, cap0, l0, rfl, w0⟩ := open_acs (hval 0 66 v0 rfl rfl) h0 (fun _ => rfl)
  have lt1 : ∀ x ∈ p1, x.block < W.heap.size := by obtain ⟨m, hm⟩ := h1; exact DataW.trod_lt m _ _ _ hm
  obtain ⟨a1, rfl, w1⟩ := open_pf (hval 1 26 v1 rfl rfl) h1
  clear hA0 hval0
  refine (under_law A0 cap0 l0 a1 W w0).mono fun e W' ⟨he, bel⟩ => ?_
  subst he
  exact ⟨_, rfl, _, _, _, [], _, [], hW', trodAll_mk1 (shut_bool Try.underlying4 _), (trodAll_cons_mk (Below.trod laidOut (by kernel_rfl) (of_decide_eq_true (by kernel_rfl)) h0 bel lt0) (trodAll_cons_mk (Below.trod laidOut (by kernel_rfl) (of_decide_eq_true (by kernel_rfl)) h1 bel lt1) trodAll_mk0)), rfl, bel.frame _, fun h => by cases h⟩

theorem trieUnder_holds : Rows.TrieUnderSaid :=
  OpenClaim.holds_of_wide 12 Try.f12 rfl rfl rfl rfl rfl rfl rfl ⟨rfl, rfl, rfl, rfl, rfl⟩ rfl rfl rfl rfl rfl (by kernel_rfl) Try.func12 (by kernel_rfl)
    (of_decide_eq_true (by kernel_rfl)) (by unfold Func.isWrapper; first | (rw [if_pos (by decide +kernel)]; kernel_rfl) | (rw [if_neg (by decide +kernel)]; exact ⟨rfl, rfl⟩))
    (fun os started H enc _ => trieUnder_lifted os started H enc)

end Go.Proofs.Ytnepmlhbheaonaa
