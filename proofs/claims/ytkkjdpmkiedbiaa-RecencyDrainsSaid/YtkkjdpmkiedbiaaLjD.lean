/-
  RecencyDrains returns true, and leaves all old memory as it was. No condition.
-/
import Derived.Test.YtkkjdpmkiedbiaaLjO
namespace Go.Proofs.Ytkkjdpmkiedbiaa
open Go.RowKit
set_option maxRecDepth 100000

/-- The last one of some goes. -/
theorem last_goes {s : Rc} {R : Nat → Lnk} (hk : s.Ok R) {O : List Nat} {x : Nat} (h : s.L = O ++ [x]) : s.last = (x : Int) ∧ s.is = true ∧ s.has (x : Int) = true ∧ (s.drop (x : Int)).L = O := by
  have hnd := hk.once
  rw [h] at hnd
  refine ⟨by unfold Rc.last; rw [h]; simp, by unfold Rc.is; rw [h]; simp, by rw [has_nat10, h]; simp, ?_⟩
  unfold Rc.drop
  simp only
  rw [h, wout_split (B := []) hnd]
  simp
theorem last_none {s : Rc} (h : s.L = []) : s.last = 0 ∧ s.is = false := by
  unfold Rc.last Rc.is
  rw [h]
  exact ⟨rfl, rfl⟩

set_option maxHeartbeats 8000000 in
theorem drains_law (most : Int) (A : Option Addr) (cap : Nat) (ls : List Ac10) (w : World) (hr : KA10.Rd w A ls) :
    Calls Try.prog 6 #[.int .i64 most, .slice A ls.length cap] w fun e w' => e = .returned (.bool true) ∧ Below w.heap.size w w' := by
  have HR := Lib.hid hr
  clear hr
  obtain ⟨M, hM, hM32⟩ : ∃ M : Nat, bits .and .i64 most 31 = (M : Int) ∧ M ≤ 31 := ⟨(most % 32).toNat, by rw [i64_and5]; omega, by omega⟩
  go_enter Try.func6, Try.ntmps6
  go_wp2_with fail
  refine (awake10_any w).mono ?_
  rintro e w1 ⟨rfl, b1⟩
  have z1 := b1.size
  by_cases hlen : 100 < ls.length
  · have t0 : decide (100 < (ls.length : Int)) = true := by simp; omega
    go_wp2
    go_ret
    exact ⟨rfl, b1⟩
  · have t0 : decide (100 < (ls.length : Int)) = false := by simp; omega
    go_wp2_with fail
    refine (wy_new (M : Int) w1).mono ?_
    rintro e w2 ⟨t, rfl, h2⟩
    have H2 := Lib.hid h2
    clear h2
    go_wp2_with fail
    go_loopw [7] (fun n wr => ∃ (k : Nat) (s : Rc), k ≤ ls.length ∧ n = .int .i64 k ∧ WY noX w1 t s wr) (fun n _ => ls.length - (intOf n).toNat)
    case atStart => exact ⟨0, _, by omega, rfl, H2.out⟩
    case round =>
      obtain ⟨k, s, hk, rfl, hb⟩ := hrel
      have HK := Lib.hid hb
      clear hb H2
      by_cases hkl : k < ls.length
      · have t2 : decide ((k : Int) < (ls.length : Int)) = true := by simp; omega
        obtain ⟨g, off, rfl, hg, hc⟩ := HR.out (by intro e; rw [e] at hkl; cases hkl)
        have hB1 := b1.trans (HK.out.below.mono z1)
        have d0 : wr.cell? ⟨g, off + k * 2, none⟩ = some (.bool ls[k].out) := (hB1.cell (p := ⟨g, off + k * 2, none⟩) hg).trans (hc k hkl 0 (by decide))
        have d1 : wr.cell? ⟨g, off + k * 2 + 1, none⟩ = some (.int .i64 ls[k].i) := (hB1.cell (p := ⟨g, off + k * 2 + 1, none⟩) hg).trans (hc k hkl 1 (by decide))
        generalize ls[k] = a at d0 d1
        clear hc hB1
        go_wp2_with fail
        refine (do10_any HK.out a).mono ?_
        rintro e w4 ⟨rfl, h4, -⟩
        have H4 := Lib.hid h4
        clear h4
        go_wp2
        go_roundw
        case rel => exact ⟨k + 1, _, by omega, by go_num, H4.out⟩
        case measure => simp [intOf]; omega
      · have hkl' : k = ls.length := by omega
        subst hkl'
        have t2 : decide ((ls.length : Int) < (ls.length : Int)) = false := by simp
        go_wp2_with fail
        refine (wy_order HK.out).mono ?_
        rintro e w5 ⟨A5, c5, rfl, ho5, b5⟩
        have H5 := Lib.hid (HK.out.turn (X' := fun b => A5.map (·.block) = some b) b5 (fun b hb => .inr (own_at ho5 hb).1) (fun b hb => (own_at ho5 hb).2.1))
        have R5 := Lib.hid (NatsPost.rd ho5).1
        have hll : s.L.length ≤ 1024 := by obtain ⟨R, h⟩ := HK.out.ok; exact h.len.1
        clear ho5 b5 HK
        generalize hO : s.L = O at R5 hll
        go_wp2_with fail
        go_loopw [9] (fun n wr => ∃ (j : Nat) (s : Rc), j ≤ O.length ∧ n = .int .i64 ((j : Int) - 1) ∧ s.L = O.take j ∧ WY (fun b => A5.map (·.block) = some b) w1 t s wr ∧ KN.Rd wr A5 O) (fun n _ => (intOf n + 1).toNat)
        case atStart => exact ⟨O.length, s, Nat.le_refl _, by simp, by rw [hO, List.take_of_length_le (Nat.le_refl _)], H5.out, R5.out⟩
        case round =>
          clear hO
          obtain ⟨j, s, hj, rfl, hs, hb, hrd⟩ := hrel
          have HK := Lib.hid hb
          have RD := Lib.hid hrd
          have HS := Lib.hid hs
          clear hb hrd hs H5 R5
          cases j with
          | succ j =>
            have e1 : (((j + 1 : Nat) : Int) - 1) = (j : Int) := by omega
            rw [e1]
            have t3 : decide (0 ≤ (j : Int)) = true := by simp
            have hlt : j < O.length := by omega
            obtain ⟨g, off, rfl, h3⟩ := rd_at RD.out hlt
            have hL : s.L = O.take j ++ [O[j]] := by rw [HS.out, List.take_append_getElem hlt]
            obtain ⟨R, hok⟩ := HK.out.ok
            obtain ⟨l1, l2, l3, l4⟩ := last_goes hok hL
            have E2 := Lib.hid (fun W (hW : Below wr.heap.size wr W) => (h3 W hW).1)
            generalize O[j] = y at l1 l3 l4 E2
            have hc := wy_last HK.out
            rw [l1, l2] at hc
            have HC := Lib.hid hc
            have HD := Lib.hid (fun W (h : WY (fun b => Option.map (·.block) (some (⟨g, off, none⟩ : Addr)) = some b) w1 t s W) => wy_drop h (y : Int))
            rw [l3] at HD
            have k3 : (j : Int) < (O.length : Int) := by omega
            have L4 := Lib.hid l4
            clear hc hL hok l1 l2 l3 l4 h3 e1
            go_wp2_with fail
            refine HC.out.mono ?_
            rintro e w6 ⟨rfl, b6⟩
            have e3 := E2.out w6 b6
            have HK6 := Lib.hid (HK.out.keep b6)
            have RD6 := Lib.hid (RD.out.kept b6)
            have C6 := Lib.hid (HD.out _ HK6.out)
            clear b6
            go_wp2_with fail
            refine C6.out.mono ?_
            rintro e w7 ⟨rfl, g1, g2⟩
            have G1 := Lib.hid g1
            have RD7 := Lib.hid (rd_block' RD6.out g2)
            clear g1 g2 e3
            go_wp2
            go_roundw
            case rel => exact ⟨j, s.drop (y : Int), by omega, by go_num, L4.out, G1.out, RD7.out⟩
            case measure => simp [intOf]
          | zero =>
            have e1 : (((0 : Nat) : Int) - 1) = -1 := by omega
            rw [e1]
            have hL : s.L = [] := by rw [HS.out]; rfl
            obtain ⟨l1, l2⟩ := last_none hL
            have hc := wy_last HK.out
            rw [l1, l2] at hc
            have HC := Lib.hid hc
            have HD := Lib.hid (fun W (h : WY (fun b => A5.map (·.block) = some b) w1 t s W) => wy_len h)
            rw [hL] at HD
            clear hc hL l1 l2 e1 HS
            go_wp2_with fail
            refine HC.out.mono ?_
            rintro e w6 ⟨rfl, b6⟩
            have HK6 := Lib.hid (HK.out.keep b6)
            have C6 := Lib.hid (HD.out _ HK6.out)
            clear b6
            go_wp2_with fail
            refine C6.out.mono ?_
            rintro e w7 ⟨rfl, rfl⟩
            go_wp2
            go_ret
            exact ⟨rfl, b1.trans (HK6.out.below.mono z1)⟩

end Go.Proofs.Ytkkjdpmkiedbiaa
