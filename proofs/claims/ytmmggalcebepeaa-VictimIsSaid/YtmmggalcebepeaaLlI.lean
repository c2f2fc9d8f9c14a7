/-
  VictimIs: the law returns true. Condition: the entries lie where the argument says.
-/
import Derived.Test.YtmmggalcebepeaaNu
namespace Go.Proofs.Ytmmggalcebepeaa
open Go.RowKit
set_option maxRecDepth 100000

set_option maxHeartbeats 4000000 in
theorem victimIs_law (pol : Int) (A : Option Addr) (c : Nat) (l : List Ent) (w : World) (h : KE.Rd w A l ∧ (A = none → l = [] ∧ c = 0)) :
    Calls Try.prog 3 #[.int .i64 pol, .slice A l.length c] w fun e w' => e = .returned (.bool true) ∧ Below w.heap.size w w' := by
  have HR := Lib.hid h.1
  have HA := Lib.hid h.2
  clear h
  by_cases hl : l.length ≤ 200
  · have hl' : ¬ (200 : Int) < (l.length : Int) := by omega
    obtain ⟨n, hn⟩ : ∃ n, n = l.length := ⟨_, rfl⟩
    have HN := Lib.hid hn
    have HL := Lib.hid hl
    rw [← hn] at hl'
    have cO := Lib.hid (fun (W : World) (hb : Below w.heap.size w W) => ours12_any A c l W (HR.out.keep hb (Nat.le_refl _)) (by omega))
    have cC := Lib.hid (fun (W : World) A' c' (hr : KE.Rd W A' l) (hc : l.length ≤ c') => choose12_any pol A' c' l W hr hc (by omega))
    have cK := Lib.hid (fun (W : World) (hb : Below w.heap.size w W) => rchoose12_any pol A c l W (HR.out.keep hb (Nat.le_refl _)) (by omega))
    have cR := Lib.hid (fun (W : World) A' c' (hr : KE.Rd W A' l) hA => rank12_any pol A' c' l W hr hA (by omega))
    have cQ := Lib.hid (fun (W : World) (hb : Below w.heap.size w W) => rrank12_any pol A c l W (HR.out.keep hb (Nat.le_refl _)) (fun e => by have := HA.out e; rw [this.1]; exact ⟨rfl, this.2⟩) (by omega))
    rw [← hn]
    rw [← hn] at cO cC cK cR cQ
    clear hn hl
    go_enter Try.func3, Try.ntmps3
    go_wp2_with fail
    refine (awake12_any _).mono ?_
    rintro e w1 ⟨rfl, h1⟩
    have B1 := Lib.hid h1
    clear h1
    go_wp2_with fail
    refine (cO.out w1 B1.out).mono ?_
    rintro e w2 hq
    obtain ⟨A2, c2, rfl, hr2, hc2, -, hb2⟩ := hq.rd
    have R2 := Lib.hid hr2
    have C2 := Lib.hid hc2
    have B2 := Lib.hid (B1.out.trans (hb2.mono B1.out.size))
    rw [← HN.out]
    clear hq hr2 hc2 hb2
    go_wp2_with fail
    refine (cC.out w2 A2 c2 R2.out (by rw [HN.out]; exact C2.out)).mono ?_
    rintro e w3 ⟨rfl, h3⟩
    have B3 := Lib.hid (B2.out.trans (h3.mono B2.out.size))
    clear h3
    go_wp2_with fail
    refine (cK.out w3 B3.out).mono ?_
    rintro e w4 ⟨rfl, h4⟩
    have B4 := Lib.hid (B3.out.trans (h4.mono B3.out.size))
    clear h4
    generalize chI pol l = x
    generalize decide (0 < n) = y
    have tx : (x == x) = true := by simp
    have ty : (y == y) = true := by simp
    go_wp2_with fail
    refine (cO.out w4 B4.out).mono ?_
    rintro e w5 hq
    obtain ⟨A5, c5, rfl, hr5, -, hA5, hb5⟩ := hq.rd
    have R5 := Lib.hid hr5
    have HA5 := Lib.hid hA5
    have B5 := Lib.hid (B4.out.trans (hb5.mono B4.out.size))
    rw [← HN.out]
    clear hq hr5 hA5 hb5
    go_wp2_with fail
    refine (cR.out w5 A5 c5 R5.out HA5.out).mono ?_
    rintro e w6 hq
    obtain ⟨A6, c6, rfl, hr6, hb6⟩ := hq.rd
    have R6 := Lib.hid hr6
    have B6 := Lib.hid (B5.out.trans (hb6.mono B5.out.size))
    have HRL : Hid ((rank pol l).length ≤ 200) := Lib.hid (by rw [rank_len]; exact HL.out)
    generalize rank pol l = R at *
    clear hq hr6 hb6
    go_wp2_with fail
    refine (cQ.out w6 B6.out).mono ?_
    rintro e w7 hq
    obtain ⟨A7, c7, rfl, hr7, hb7⟩ := hq.rd
    have R7 := Lib.hid hr7
    have R67 := Lib.hid (R6.out.kept hb7)
    have B7 := Lib.hid (B6.out.trans (hb7.mono B6.out.size))
    clear hq hr7 hb7
    go_wp2_with fail
    refine (ints12_any R A6 A7 c6 c7 w7 R67.out R7.out (by have := HRL.out; omega)).mono ?_
    rintro e w8 ⟨rfl, h8⟩
    have B8 := Lib.hid (B7.out.trans (h8.mono B7.out.size))
    clear h8
    go_wp2
    go_ret
    exact ⟨rfl, B8.out⟩
  · have hl' : (200 : Int) < (l.length : Int) := by omega
    go_enter Try.func3, Try.ntmps3
    go_wp2_with fail
    refine (awake12_any _).mono ?_
    rintro e w1 ⟨rfl, h1⟩
    go_wp2
    go_ret
    exact ⟨rfl, h1⟩

end Go.Proofs.Ytmmggalcebepeaa
