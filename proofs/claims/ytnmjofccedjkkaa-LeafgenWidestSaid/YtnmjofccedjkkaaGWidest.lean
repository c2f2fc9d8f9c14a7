/-
  LeafgenWidest: for every input the call returns true, and each argument reads afterwards as it read before. No condition.
-/
import Derived.Test.YtnmjofccedjkkaaH1
namespace Go.Proofs.Ytnmjofccedjkkaa
open Go.RowKit Go.Maps
set_option maxRecDepth 100000


theorem fld_n (F : Pf) (W : World) : (Instr.field 27 (.agg #[.int .u64 (u F.a.hi), .int .u64 (u F.a.lo), .bool F.a.v6, .int .i64 F.n]) 1).run Try.prog W = .ok (.int .i64 F.n) W := rfl
set_option maxHeartbeats 8000000 in
theorem leafwidest_law (A : Option Addr) (cap : Nat) (ls : List Pr) (a : Ad) (n m : Int) (w : World) (hr : RdQ w A ls) :
    Calls Try.prog 8 #[.slice A ls.length cap, .agg #[.int .u64 (u a.hi), .int .u64 (u a.lo), .bool a.v6], .int .i64 n, .int .i64 m] w fun e w' => e = .returned (.bool true) ∧ Below w.heap.size w w' := by
  have HRD := Lib.hid hr
  clear hr
  by_cases hlen : 60 < ls.length
  · have t0 : decide ((60 : Int) < (ls.length : Int)) = true := by simp; omega
    go_enter Try.func8, Try.ntmps8
    go_wp2_with fail
    refine (awake7_any _).mono ?_
    rintro e w1 ⟨rfl, hw1⟩
    have b1 : Below w.heap.size w w1 := below_of (by go_grown) hw1
    go_wp2
    go_ret
    exact ⟨rfl, b1⟩
  · have t0 : decide ((60 : Int) < (ls.length : Int)) = false := by simp; omega
    go_enter Try.func8, Try.ntmps8
    go_wp2_with fail
    refine (awake7_any _).mono ?_
    rintro e w1 ⟨rfl, hw1⟩
    have b1 : Below w.heap.size w w1 := below_of (by go_grown) hw1
    have Hp1 : Hid (ABox w1 (w.heap.size) a) := Lib.hid (ABox.keep ⟨by go_simp <;> rfl, by go_simp <;> rfl, by go_simp <;> rfl, by go_size⟩ hw1)
    have v1 := Hp1.out.2.2.2
    clear hw1
    go_wp2_with fail
    refine (filled_any A cap ls _ (HRD.out.keep b1 (Nat.le_refl _)) (by omega)).mono ?_
    rintro e w3 ⟨r, S, rfl, hR3, hm3, hS3, hb3⟩
    have Hp3 := Lib.hid (Hp1.out.keep hb3)
    have b3 := b1.trans (hb3.mono b1.size)
    have z1 := b1.size
    have z3 := b3.size
    have hs3 := hR3.srt
    generalize (fillK ls ls.length).1 = L at hR3 hs3
    generalize (fillK ls ls.length).2 = M at hR3 hm3
    have HR3 := Lib.hid hR3
    have HS3 := Lib.hid hS3
    have HSR := Lib.hid hs3
    clear hR3 hS3 hs3 hb3 HRD b1 t0 Hp1
    rcases Int.lt_trichotomy n m with hnm | hnm | hnm
    · have hle : n ≤ m := by omega
      have cw1 := fun W (H : RibS W r S 200 200 L M) => widest_any H a n
      have cw2 := fun W (H : RibS W r S 200 200 L M) => widest_any H a m
      have cw3 := fun k W (H : RibS W r S 200 200 L M) => widest_any H a k
      have e3 := wide_128 L a
      have e4 := wide_again L a n
      have co := pof_any a 128
      have cc := pcov_any (wideP L a n) (wideP L a m)
      have ci := fun p W (H : RibS W r S 200 200 L M) => rib_ins H p
      have i1 := (wide_spec L a n).2.2.1
      have i2 := (wide_spec L a m).2.2.1
      rw [wide_le hle] at cc
      have hq := wide_least L a m
      obtain ⟨P, hP⟩ : ∃ P, wideP L a n = P := ⟨_, rfl⟩
      obtain ⟨Q, hQ⟩ : ∃ Q, wideP L a m = Q := ⟨_, rfl⟩
      obtain ⟨F, hF⟩ : ∃ F, pof a 128 = F := ⟨_, rfl⟩
      rw [hP] at cw1 cc i1 e4
      rw [hQ] at cw2 cc i2 hq
      rw [hF] at co hq e3
      clear hP hQ hF hle
      have CW1 := Lib.hid cw1
      have CW2 := Lib.hid cw2
      have CW3 := Lib.hid cw3
      have CO := Lib.hid co
      have CC := Lib.hid cc
      have CI := Lib.hid ci
      have E3 := Lib.hid e3
      have E4 := Lib.hid e4
      have I1 := Lib.hid i1
      have I2 := Lib.hid i2
      clear cw1 cw2 cw3 co cc ci e3 e4 i1 i2
      obtain ⟨pa, pb, pc, pz⟩ := id Hp3.out
      go_wp2_with fail
      refine (CW1.out _ HR3.out).mono ?_
      rintro e w4 ⟨rfl, hw⟩
      have ee := hw
      have Hp4 := Lib.hid (Hp3.out.keep ee)
      have HR4 := Lib.hid (HR3.out.keep ee)
      have b4 := b3.trans (ee.mono b3.size)
      have z4 := b4.size
      have y4 := ee.size
      clear hw ee HR3 Hp3 pa pb pc pz
      obtain ⟨pa, pb, pc, pz⟩ := id Hp4.out
      have pn0 : ¬ w.heap.size = w4.heap.size := by omega
      go_wp2_with fail
      refine (CW2.out _ (HR4.out.keep (by go_grown))).mono ?_
      rintro e w5 ⟨rfl, hw⟩
      have ee : Below w4.heap.size w4 w5 := below_of (by go_grown) hw
      have Hb5 : Hid (PBox w5 (w4.heap.size) P) := Lib.hid (PBox.keep (by exact ⟨by go_simp <;> rfl, by go_simp <;> rfl, by go_simp <;> rfl, by go_simp <;> rfl, by go_simp <;> rfl, by go_simp <;> rfl, by go_simp <;> rfl, by go_simp <;> rfl, by go_size⟩) hw)
      have Hp5 := Lib.hid (Hp4.out.keep ee)
      have HR5 := Lib.hid (HR4.out.keep ee)
      have b5 := b4.trans (ee.mono b4.size)
      have z5 := b5.size
      have y5 := ee.size
      clear hw ee HR4 Hp4 pa pb pc pz pn0
      go_wp2_with fail
      generalize hV : World.alloc _ _ = w6
      have ee : Below w5.heap.size w5 w6 := by subst hV; go_grown
      have Hc6 : Hid (PBox w6 (w5.heap.size) Q) := Lib.hid (by subst hV; exact ⟨by go_simp <;> rfl, by go_simp <;> rfl, by go_simp <;> rfl, by go_simp <;> rfl, by go_simp <;> rfl, by go_simp <;> rfl, by go_simp <;> rfl, by go_simp <;> rfl, by go_size⟩)
      have Hp6 := Lib.hid (Hp5.out.keep ee)
      have Hb6 := Lib.hid (Hb5.out.keep ee)
      have HR6 := Lib.hid (HR5.out.keep ee)
      have b6 := b5.trans (ee.mono b5.size)
      have z6 := b6.size
      have y6 := ee.size
      clear hV ee HR5 Hp5 Hb5
      have hfld := fld_n F
      by_cases hFn : F.n < m
      · have tq : decide (F.n ≤ Q.n) = true := decide_eq_true (by omega)
        clear hq
        have e3 := E3.out
        have e4 := E4.out
        have i1 := I1.out
        have i2 := I2.out
        obtain ⟨ba, bb, bc, bg, -, -, -, -, bz⟩ := id Hb6.out
        obtain ⟨ca, cb, cc, cg, -, -, -, -, cz⟩ := id Hc6.out
        obtain ⟨pa, pb, pc, pz⟩ := id Hp6.out
        have Lba := fun x : Later w6.heap.size w6 => (x.cell bz).trans ba
        have Lbb := fun x : Later w6.heap.size w6 => (x.cell bz).trans bb
        have Lbc := fun x : Later w6.heap.size w6 => (x.cell bz).trans bc
        have Lbg := fun x : Later w6.heap.size w6 => (x.cell bz).trans bg
        have Lca := fun x : Later w6.heap.size w6 => (x.cell cz).trans ca
        have Lcb := fun x : Later w6.heap.size w6 => (x.cell cz).trans cb
        have Lcc := fun x : Later w6.heap.size w6 => (x.cell cz).trans cc
        have Lcg := fun x : Later w6.heap.size w6 => (x.cell cz).trans cg
        have Lpa := fun x : Later w6.heap.size w6 => (x.cell pz).trans pa
        have Lpb := fun x : Later w6.heap.size w6 => (x.cell pz).trans pb
        have Lpc := fun x : Later w6.heap.size w6 => (x.cell pz).trans pc
        refine region_later w6.heap.size (by kernel_rfl) (by kernel_rfl) ?_
        repeat (go_big_quiet_step (first | (go_at_call 31; exact later_of (Nat.le_refl _) (CC.out _)) | (go_at_call 26; exact later_of (Nat.le_refl _) (CI.out _ _ (HR6.out.keep (Later.below _)))) | (go_at_call 20; exact later_of (Nat.le_refl _) (CW3.out _ _ (HR6.out.keep (Later.below _)))) | (go_at_call 34; exact later_of (Nat.le_refl _) (CO.out _))))
        refine wpQuiet_nil ?_
        intro x
        have ee := x.below
        generalize x.at = w7 at ee ⊢
        clear x Lba Lbb Lbc Lbg Lca Lcb Lcc Lcg Lpa Lpb Lpc
        have Hp7 := Lib.hid (Hp6.out.keep ee)
        have Hb7 := Lib.hid (Hb6.out.keep ee)
        have Hc7 := Lib.hid (Hc6.out.keep ee)
        have HR7 := Lib.hid (HR6.out.keep ee)
        have b7 := b6.trans (ee.mono b6.size)
        have z7 := b7.size
        have y7 := ee.size
        clear ee HR6 Hp6 Hb6 Hc6 ba bb bc bg bz ca cb cc cg cz pa pb pc pz
        go_wp2
        go_ret
        refine ⟨rfl, ?_⟩
        go_grown
      · have tq : decide (m ≤ Q.n) = true := decide_eq_true (by omega)
        clear hq
        have e3 := E3.out
        have e4 := E4.out
        have i1 := I1.out
        have i2 := I2.out
        obtain ⟨ba, bb, bc, bg, -, -, -, -, bz⟩ := id Hb6.out
        obtain ⟨ca, cb, cc, cg, -, -, -, -, cz⟩ := id Hc6.out
        obtain ⟨pa, pb, pc, pz⟩ := id Hp6.out
        have Lba := fun x : Later w6.heap.size w6 => (x.cell bz).trans ba
        have Lbb := fun x : Later w6.heap.size w6 => (x.cell bz).trans bb
        have Lbc := fun x : Later w6.heap.size w6 => (x.cell bz).trans bc
        have Lbg := fun x : Later w6.heap.size w6 => (x.cell bz).trans bg
        have Lca := fun x : Later w6.heap.size w6 => (x.cell cz).trans ca
        have Lcb := fun x : Later w6.heap.size w6 => (x.cell cz).trans cb
        have Lcc := fun x : Later w6.heap.size w6 => (x.cell cz).trans cc
        have Lcg := fun x : Later w6.heap.size w6 => (x.cell cz).trans cg
        have Lpa := fun x : Later w6.heap.size w6 => (x.cell pz).trans pa
        have Lpb := fun x : Later w6.heap.size w6 => (x.cell pz).trans pb
        have Lpc := fun x : Later w6.heap.size w6 => (x.cell pz).trans pc
        refine region_later w6.heap.size (by kernel_rfl) (by kernel_rfl) ?_
        repeat (go_big_quiet_step (first | (go_at_call 31; exact later_of (Nat.le_refl _) (CC.out _)) | (go_at_call 26; exact later_of (Nat.le_refl _) (CI.out _ _ (HR6.out.keep (Later.below _)))) | (go_at_call 20; exact later_of (Nat.le_refl _) (CW3.out _ _ (HR6.out.keep (Later.below _)))) | (go_at_call 34; exact later_of (Nat.le_refl _) (CO.out _))))
        refine wpQuiet_nil ?_
        intro x
        have ee := x.below
        generalize x.at = w7 at ee ⊢
        clear x Lba Lbb Lbc Lbg Lca Lcb Lcc Lcg Lpa Lpb Lpc
        have Hp7 := Lib.hid (Hp6.out.keep ee)
        have Hb7 := Lib.hid (Hb6.out.keep ee)
        have Hc7 := Lib.hid (Hc6.out.keep ee)
        have HR7 := Lib.hid (HR6.out.keep ee)
        have b7 := b6.trans (ee.mono b6.size)
        have z7 := b7.size
        have y7 := ee.size
        clear ee HR6 Hp6 Hb6 Hc6 ba bb bc bg bz ca cb cc cg cz pa pb pc pz
        go_wp2
        go_ret
        refine ⟨rfl, ?_⟩
        go_grown
    · subst hnm
      have hle : n ≤ n := by omega
      have cw1 := fun W (H : RibS W r S 200 200 L M) => widest_any H a n
      have cw2 := fun W (H : RibS W r S 200 200 L M) => widest_any H a n
      have cw3 := fun k W (H : RibS W r S 200 200 L M) => widest_any H a k
      have e3 := wide_128 L a
      have e4 := wide_again L a n
      have co := pof_any a 128
      have cc := pcov_any (wideP L a n) (wideP L a n)
      have ci := fun p W (H : RibS W r S 200 200 L M) => rib_ins H p
      have i1 := (wide_spec L a n).2.2.1
      have i2 := (wide_spec L a n).2.2.1
      rw [wide_le hle] at cc
      have hq := wide_least L a n
      obtain ⟨P, hP⟩ : ∃ P, wideP L a n = P := ⟨_, rfl⟩
      obtain ⟨F, hF⟩ : ∃ F, pof a 128 = F := ⟨_, rfl⟩
      rw [hP] at cw1 cw2 cc i1 i2 e4 hq
      rw [hF] at co hq e3
      clear hP hF hle
      have CW1 := Lib.hid cw1
      have CW2 := Lib.hid cw2
      have CW3 := Lib.hid cw3
      have CO := Lib.hid co
      have CC := Lib.hid cc
      have CI := Lib.hid ci
      have E3 := Lib.hid e3
      have E4 := Lib.hid e4
      have I1 := Lib.hid i1
      have I2 := Lib.hid i2
      clear cw1 cw2 cw3 co cc ci e3 e4 i1 i2
      obtain ⟨pa, pb, pc, pz⟩ := id Hp3.out
      go_wp2_with fail
      refine (CW1.out _ HR3.out).mono ?_
      rintro e w4 ⟨rfl, hw⟩
      have ee := hw
      have Hp4 := Lib.hid (Hp3.out.keep ee)
      have HR4 := Lib.hid (HR3.out.keep ee)
      have b4 := b3.trans (ee.mono b3.size)
      have z4 := b4.size
      have y4 := ee.size
      clear hw ee HR3 Hp3 pa pb pc pz
      obtain ⟨pa, pb, pc, pz⟩ := id Hp4.out
      have pn0 : ¬ w.heap.size = w4.heap.size := by omega
      go_wp2_with fail
      refine (CW2.out _ (HR4.out.keep (by go_grown))).mono ?_
      rintro e w5 ⟨rfl, hw⟩
      have ee : Below w4.heap.size w4 w5 := below_of (by go_grown) hw
      have Hb5 : Hid (PBox w5 (w4.heap.size) P) := Lib.hid (PBox.keep (by exact ⟨by go_simp <;> rfl, by go_simp <;> rfl, by go_simp <;> rfl, by go_simp <;> rfl, by go_simp <;> rfl, by go_simp <;> rfl, by go_simp <;> rfl, by go_simp <;> rfl, by go_size⟩) hw)
      have Hp5 := Lib.hid (Hp4.out.keep ee)
      have HR5 := Lib.hid (HR4.out.keep ee)
      have b5 := b4.trans (ee.mono b4.size)
      have z5 := b5.size
      have y5 := ee.size
      clear hw ee HR4 Hp4 pa pb pc pz pn0
      go_wp2_with fail
      generalize hV : World.alloc _ _ = w6
      have ee : Below w5.heap.size w5 w6 := by subst hV; go_grown
      have Hc6 : Hid (PBox w6 (w5.heap.size) P) := Lib.hid (by subst hV; exact ⟨by go_simp <;> rfl, by go_simp <;> rfl, by go_simp <;> rfl, by go_simp <;> rfl, by go_simp <;> rfl, by go_simp <;> rfl, by go_simp <;> rfl, by go_simp <;> rfl, by go_size⟩)
      have Hp6 := Lib.hid (Hp5.out.keep ee)
      have Hb6 := Lib.hid (Hb5.out.keep ee)
      have HR6 := Lib.hid (HR5.out.keep ee)
      have b6 := b5.trans (ee.mono b5.size)
      have z6 := b6.size
      have y6 := ee.size
      clear hV ee HR5 Hp5 Hb5
      have hfld := fld_n F
      by_cases hFn : F.n < n
      · have tq : decide (F.n ≤ P.n) = true := decide_eq_true (by omega)
        clear hq
        have e3 := E3.out
        have e4 := E4.out
        have i1 := I1.out
        have i2 := I2.out
        obtain ⟨ba, bb, bc, bg, -, -, -, -, bz⟩ := id Hb6.out
        obtain ⟨ca, cb, cc, cg, -, -, -, -, cz⟩ := id Hc6.out
        obtain ⟨pa, pb, pc, pz⟩ := id Hp6.out
        have Lba := fun x : Later w6.heap.size w6 => (x.cell bz).trans ba
        have Lbb := fun x : Later w6.heap.size w6 => (x.cell bz).trans bb
        have Lbc := fun x : Later w6.heap.size w6 => (x.cell bz).trans bc
        have Lbg := fun x : Later w6.heap.size w6 => (x.cell bz).trans bg
        have Lca := fun x : Later w6.heap.size w6 => (x.cell cz).trans ca
        have Lcb := fun x : Later w6.heap.size w6 => (x.cell cz).trans cb
        have Lcc := fun x : Later w6.heap.size w6 => (x.cell cz).trans cc
        have Lcg := fun x : Later w6.heap.size w6 => (x.cell cz).trans cg
        have Lpa := fun x : Later w6.heap.size w6 => (x.cell pz).trans pa
        have Lpb := fun x : Later w6.heap.size w6 => (x.cell pz).trans pb
        have Lpc := fun x : Later w6.heap.size w6 => (x.cell pz).trans pc
        refine region_later w6.heap.size (by kernel_rfl) (by kernel_rfl) ?_
        repeat (go_big_quiet_step (first | (go_at_call 31; exact later_of (Nat.le_refl _) (CC.out _)) | (go_at_call 26; exact later_of (Nat.le_refl _) (CI.out _ _ (HR6.out.keep (Later.below _)))) | (go_at_call 20; exact later_of (Nat.le_refl _) (CW3.out _ _ (HR6.out.keep (Later.below _)))) | (go_at_call 34; exact later_of (Nat.le_refl _) (CO.out _))))
        refine wpQuiet_nil ?_
        intro x
        have ee := x.below
        generalize x.at = w7 at ee ⊢
        clear x Lba Lbb Lbc Lbg Lca Lcb Lcc Lcg Lpa Lpb Lpc
        have Hp7 := Lib.hid (Hp6.out.keep ee)
        have Hb7 := Lib.hid (Hb6.out.keep ee)
        have Hc7 := Lib.hid (Hc6.out.keep ee)
        have HR7 := Lib.hid (HR6.out.keep ee)
        have b7 := b6.trans (ee.mono b6.size)
        have z7 := b7.size
        have y7 := ee.size
        clear ee HR6 Hp6 Hb6 Hc6 ba bb bc bg bz ca cb cc cg cz pa pb pc pz
        go_wp2
        go_ret
        refine ⟨rfl, ?_⟩
        go_grown
      · have tq : decide (n ≤ P.n) = true := decide_eq_true (by omega)
        clear hq
        have e3 := E3.out
        have e4 := E4.out
        have i1 := I1.out
        have i2 := I2.out
        obtain ⟨ba, bb, bc, bg, -, -, -, -, bz⟩ := id Hb6.out
        obtain ⟨ca, cb, cc, cg, -, -, -, -, cz⟩ := id Hc6.out
        obtain ⟨pa, pb, pc, pz⟩ := id Hp6.out
        have Lba := fun x : Later w6.heap.size w6 => (x.cell bz).trans ba
        have Lbb := fun x : Later w6.heap.size w6 => (x.cell bz).trans bb
        have Lbc := fun x : Later w6.heap.size w6 => (x.cell bz).trans bc
        have Lbg := fun x : Later w6.heap.size w6 => (x.cell bz).trans bg
        have Lca := fun x : Later w6.heap.size w6 => (x.cell cz).trans ca
        have Lcb := fun x : Later w6.heap.size w6 => (x.cell cz).trans cb
        have Lcc := fun x : Later w6.heap.size w6 => (x.cell cz).trans cc
        have Lcg := fun x : Later w6.heap.size w6 => (x.cell cz).trans cg
        have Lpa := fun x : Later w6.heap.size w6 => (x.cell pz).trans pa
        have Lpb := fun x : Later w6.heap.size w6 => (x.cell pz).trans pb
        have Lpc := fun x : Later w6.heap.size w6 => (x.cell pz).trans pc
        refine region_later w6.heap.size (by kernel_rfl) (by kernel_rfl) ?_
        repeat (go_big_quiet_step (first | (go_at_call 31; exact later_of (Nat.le_refl _) (CC.out _)) | (go_at_call 26; exact later_of (Nat.le_refl _) (CI.out _ _ (HR6.out.keep (Later.below _)))) | (go_at_call 20; exact later_of (Nat.le_refl _) (CW3.out _ _ (HR6.out.keep (Later.below _)))) | (go_at_call 34; exact later_of (Nat.le_refl _) (CO.out _))))
        refine wpQuiet_nil ?_
        intro x
        have ee := x.below
        generalize x.at = w7 at ee ⊢
        clear x Lba Lbb Lbc Lbg Lca Lcb Lcc Lcg Lpa Lpb Lpc
        have Hp7 := Lib.hid (Hp6.out.keep ee)
        have Hb7 := Lib.hid (Hb6.out.keep ee)
        have Hc7 := Lib.hid (Hc6.out.keep ee)
        have HR7 := Lib.hid (HR6.out.keep ee)
        have b7 := b6.trans (ee.mono b6.size)
        have z7 := b7.size
        have y7 := ee.size
        clear ee HR6 Hp6 Hb6 Hc6 ba bb bc bg bz ca cb cc cg cz pa pb pc pz
        go_wp2
        go_ret
        refine ⟨rfl, ?_⟩
        go_grown
    · have hle : m ≤ n := by omega
      have cw1 := fun W (H : RibS W r S 200 200 L M) => widest_any H a m
      have cw2 := fun W (H : RibS W r S 200 200 L M) => widest_any H a n
      have cw3 := fun k W (H : RibS W r S 200 200 L M) => widest_any H a k
      have e3 := wide_128 L a
      have e4 := wide_again L a m
      have co := pof_any a 128
      have cc := pcov_any (wideP L a m) (wideP L a n)
      have ci := fun p W (H : RibS W r S 200 200 L M) => rib_ins H p
      have i1 := (wide_spec L a m).2.2.1
      have i2 := (wide_spec L a n).2.2.1
      rw [wide_le hle] at cc
      have hq := wide_least L a n
      obtain ⟨P, hP⟩ : ∃ P, wideP L a m = P := ⟨_, rfl⟩
      obtain ⟨Q, hQ⟩ : ∃ Q, wideP L a n = Q := ⟨_, rfl⟩
      obtain ⟨F, hF⟩ : ∃ F, pof a 128 = F := ⟨_, rfl⟩
      rw [hP] at cw1 cc i1 e4
      rw [hQ] at cw2 cc i2 hq
      rw [hF] at co hq e3
      clear hP hQ hF hle
      have CW1 := Lib.hid cw1
      have CW2 := Lib.hid cw2
      have CW3 := Lib.hid cw3
      have CO := Lib.hid co
      have CC := Lib.hid cc
      have CI := Lib.hid ci
      have E3 := Lib.hid e3
      have E4 := Lib.hid e4
      have I1 := Lib.hid i1
      have I2 := Lib.hid i2
      clear cw1 cw2 cw3 co cc ci e3 e4 i1 i2
      obtain ⟨pa, pb, pc, pz⟩ := id Hp3.out
      go_wp2_with fail
      refine (CW1.out _ HR3.out).mono ?_
      rintro e w4 ⟨rfl, hw⟩
      have ee := hw
      have Hp4 := Lib.hid (Hp3.out.keep ee)
      have HR4 := Lib.hid (HR3.out.keep ee)
      have b4 := b3.trans (ee.mono b3.size)
      have z4 := b4.size
      have y4 := ee.size
      clear hw ee HR3 Hp3 pa pb pc pz
      obtain ⟨pa, pb, pc, pz⟩ := id Hp4.out
      have pn0 : ¬ w.heap.size = w4.heap.size := by omega
      go_wp2_with fail
      refine (CW2.out _ (HR4.out.keep (by go_grown))).mono ?_
      rintro e w5 ⟨rfl, hw⟩
      have ee : Below w4.heap.size w4 w5 := below_of (by go_grown) hw
      have Hb5 : Hid (PBox w5 (w4.heap.size) P) := Lib.hid (PBox.keep (by exact ⟨by go_simp <;> rfl, by go_simp <;> rfl, by go_simp <;> rfl, by go_simp <;> rfl, by go_simp <;> rfl, by go_simp <;> rfl, by go_simp <;> rfl, by go_simp <;> rfl, by go_size⟩) hw)
      have Hp5 := Lib.hid (Hp4.out.keep ee)
      have HR5 := Lib.hid (HR4.out.keep ee)
      have b5 := b4.trans (ee.mono b4.size)
      have z5 := b5.size
      have y5 := ee.size
      clear hw ee HR4 Hp4 pa pb pc pz pn0
      go_wp2_with fail
      generalize hV : World.alloc _ _ = w6
      have ee : Below w5.heap.size w5 w6 := by subst hV; go_grown
      have Hc6 : Hid (PBox w6 (w5.heap.size) Q) := Lib.hid (by subst hV; exact ⟨by go_simp <;> rfl, by go_simp <;> rfl, by go_simp <;> rfl, by go_simp <;> rfl, by go_simp <;> rfl, by go_simp <;> rfl, by go_simp <;> rfl, by go_simp <;> rfl, by go_size⟩)
      have Hp6 := Lib.hid (Hp5.out.keep ee)
      have Hb6 := Lib.hid (Hb5.out.keep ee)
      have HR6 := Lib.hid (HR5.out.keep ee)
      have b6 := b5.trans (ee.mono b5.size)
      have z6 := b6.size
      have y6 := ee.size
      clear hV ee HR5 Hp5 Hb5
      have hfld := fld_n F
      by_cases hFn : F.n < n
      · have tq : decide (F.n ≤ Q.n) = true := decide_eq_true (by omega)
        clear hq
        have e3 := E3.out
        have e4 := E4.out
        have i1 := I1.out
        have i2 := I2.out
        obtain ⟨ba, bb, bc, bg, -, -, -, -, bz⟩ := id Hb6.out
        obtain ⟨ca, cb, cc, cg, -, -, -, -, cz⟩ := id Hc6.out
        obtain ⟨pa, pb, pc, pz⟩ := id Hp6.out
        have Lba := fun x : Later w6.heap.size w6 => (x.cell bz).trans ba
        have Lbb := fun x : Later w6.heap.size w6 => (x.cell bz).trans bb
        have Lbc := fun x : Later w6.heap.size w6 => (x.cell bz).trans bc
        have Lbg := fun x : Later w6.heap.size w6 => (x.cell bz).trans bg
        have Lca := fun x : Later w6.heap.size w6 => (x.cell cz).trans ca
        have Lcb := fun x : Later w6.heap.size w6 => (x.cell cz).trans cb
        have Lcc := fun x : Later w6.heap.size w6 => (x.cell cz).trans cc
        have Lcg := fun x : Later w6.heap.size w6 => (x.cell cz).trans cg
        have Lpa := fun x : Later w6.heap.size w6 => (x.cell pz).trans pa
        have Lpb := fun x : Later w6.heap.size w6 => (x.cell pz).trans pb
        have Lpc := fun x : Later w6.heap.size w6 => (x.cell pz).trans pc
        refine region_later w6.heap.size (by kernel_rfl) (by kernel_rfl) ?_
        repeat (go_big_quiet_step (first | (go_at_call 31; exact later_of (Nat.le_refl _) (CC.out _)) | (go_at_call 26; exact later_of (Nat.le_refl _) (CI.out _ _ (HR6.out.keep (Later.below _)))) | (go_at_call 20; exact later_of (Nat.le_refl _) (CW3.out _ _ (HR6.out.keep (Later.below _)))) | (go_at_call 34; exact later_of (Nat.le_refl _) (CO.out _))))
        refine wpQuiet_nil ?_
        intro x
        have ee := x.below
        generalize x.at = w7 at ee ⊢
        clear x Lba Lbb Lbc Lbg Lca Lcb Lcc Lcg Lpa Lpb Lpc
        have Hp7 := Lib.hid (Hp6.out.keep ee)
        have Hb7 := Lib.hid (Hb6.out.keep ee)
        have Hc7 := Lib.hid (Hc6.out.keep ee)
        have HR7 := Lib.hid (HR6.out.keep ee)
        have b7 := b6.trans (ee.mono b6.size)
        have z7 := b7.size
        have y7 := ee.size
        clear ee HR6 Hp6 Hb6 Hc6 ba bb bc bg bz ca cb cc cg cz pa pb pc pz
        go_wp2
        go_ret
        refine ⟨rfl, ?_⟩
        go_grown
      · have tq : decide (n ≤ Q.n) = true := decide_eq_true (by omega)
        clear hq
        have e3 := E3.out
        have e4 := E4.out
        have i1 := I1.out
        have i2 := I2.out
        obtain ⟨ba, bb, bc, bg, -, -, -, -, bz⟩ := id Hb6.out
        obtain ⟨ca, cb, cc, cg, -, -, -, -, cz⟩ := id Hc6.out
        obtain ⟨pa, pb, pc, pz⟩ := id Hp6.out
        have Lba := fun x : Later w6.heap.size w6 => (x.cell bz).trans ba
        have Lbb := fun x : Later w6.heap.size w6 => (x.cell bz).trans bb
        have Lbc := fun x : Later w6.heap.size w6 => (x.cell bz).trans bc
        have Lbg := fun x : Later w6.heap.size w6 => (x.cell bz).trans bg
        have Lca := fun x : Later w6.heap.size w6 => (x.cell cz).trans ca
        have Lcb := fun x : Later w6.heap.size w6 => (x.cell cz).trans cb
        have Lcc := fun x : Later w6.heap.size w6 => (x.cell cz).trans cc
        have Lcg := fun x : Later w6.heap.size w6 => (x.cell cz).trans cg
        have Lpa := fun x : Later w6.heap.size w6 => (x.cell pz).trans pa
        have Lpb := fun x : Later w6.heap.size w6 => (x.cell pz).trans pb
        have Lpc := fun x : Later w6.heap.size w6 => (x.cell pz).trans pc
        refine region_later w6.heap.size (by kernel_rfl) (by kernel_rfl) ?_
        repeat (go_big_quiet_step (first | (go_at_call 31; exact later_of (Nat.le_refl _) (CC.out _)) | (go_at_call 26; exact later_of (Nat.le_refl _) (CI.out _ _ (HR6.out.keep (Later.below _)))) | (go_at_call 20; exact later_of (Nat.le_refl _) (CW3.out _ _ (HR6.out.keep (Later.below _)))) | (go_at_call 34; exact later_of (Nat.le_refl _) (CO.out _))))
        refine wpQuiet_nil ?_
        intro x
        have ee := x.below
        generalize x.at = w7 at ee ⊢
        clear x Lba Lbb Lbc Lbg Lca Lcb Lcc Lcg Lpa Lpb Lpc
        have Hp7 := Lib.hid (Hp6.out.keep ee)
        have Hb7 := Lib.hid (Hb6.out.keep ee)
        have Hc7 := Lib.hid (Hc6.out.keep ee)
        have HR7 := Lib.hid (HR6.out.keep ee)
        have b7 := b6.trans (ee.mono b6.size)
        have z7 := b7.size
        have y7 := ee.size
        clear ee HR6 Hp6 Hb6 Hc6 ba bb bc bg bz ca cb cc cg cz pa pb pc pz
        go_wp2
        go_ret
        refine ⟨rfl, ?_⟩
        go_grown

end Go.Proofs.Ytnmjofccedjkkaa

namespace Go.Proofs.Ytnmjofccedjkkaa
open Go.ChangeShapes Go.WideShapes Go.ChangeAt Go.RowKit

set_option maxRecDepth 100000 in
theorem leafgenWidest_lifted (os : Os) (started : os.Started) (H : Type) (enc : TypeId × Value → H) :
    ReturnsInHanded {} Try.checked os 8 .any (Rows.leafgenWidestSpec.pre6 enc Try.prog Try.f8 Rows.leafgenWidestRow.domain false) (Rows.leafgenWidestSpec.post enc Try.prog Try.f8 false true false false) := by
  refine returnsInHanded_of_change (C := Try.checked) own started (by kernel_rfl) Try.func8
    (ChangeSpec.witness6 (enc := enc) (C := Try.checked) false ⟨#[], #[.slice none 0 0, .agg #[.int .u64 0, .int .u64 0, .bool false], .int .i64 0, .int .i64 0], []⟩ 8 (by kernel_rfl) (by kernel_rfl) (by kernel_rfl) (by kernel_rfl)) ?_
  intro W base args ds gs before hval0 hW hcnd _
  have hval : ∀ (j : Nat) t v, Try.f8.params[j]? = some t → args[j]? = some v → Value.okWide Try.prog W .any base t v := hval0
  have hW' := hW
  obtain ⟨p, q, hA0, hV, rfl, hfz, hnd⟩ := hW
  have hA : DataW.TrodAll enc Try.prog W 0 (fun _ => true) true Try.f8.params.toList args.toList ds p := hA0
  rw [Try.params8] at hA hval
  obtain ⟨v0, vs0, d0, ds0, p0, q0, hargs, rfl, rfl, h0, r0⟩ := trodAll_cons hA
  obtain ⟨v1, vs1, d1, ds1, p1, q1, rfl, rfl, rfl, h1, r1⟩ := trodAll_cons r0
  obtain ⟨v2, vs2, d2, ds2, p2, q2, rfl, rfl, rfl, h2, r2⟩ := trodAll_cons r1
  obtain ⟨v3, vs3, d3, ds3, p3, q3, rfl, rfl, rfl, h3, r3⟩ := trodAll_cons r2
  obtain ⟨rfl, rfl, rfl⟩ := trodAll_nil r3
  obtain rfl : args = #[v0, v1, v2, v3] := by cases args; simp_all
  obtain ⟨rfl, rfl⟩ := trodVars_none hV
  have lt0 : ∀ x ∈ p0, x.block < W.heap.size := by obtain ⟨m, hm⟩ := h0; exact DataW.trod_lt m _ _ _ hm
  obtain ⟨A0, cap0, l0, rfl, w0⟩ := open_prs (hval 0 22 v0 rfl rfl) h0 (fun _ => rfl)
  have lt1 : ∀ x ∈ p1, x.block < W.heap.size := by obtain ⟨m, hm⟩ := h1; exact DataW.trod_lt m _ _ _ hm
  obtain ⟨a1, rfl⟩ := open_ad (hval 1 25 v1 rfl rfl) h1
  have lt2 : ∀ x ∈ p2, x.block < W.heap.size := by obtain ⟨m, hm⟩ := h2; exact DataW.trod_lt m _ _ _ hm
  have k2 := h2
  obtain ⟨a2, rfl, e2, f2, w2⟩ := open_int Try.underlying3 (hval 2 3 v2 rfl rfl) h2
  have lt3 : ∀ x ∈ p3, x.block < W.heap.size := by obtain ⟨m, hm⟩ := h3; exact DataW.trod_lt m _ _ _ hm
  have k3 := h3
  obtain ⟨a3, rfl, e3, f3, w3⟩ := open_int Try.underlying3 (hval 3 3 v3 rfl rfl) h3
  clear hA0 hval0
  refine (leafwidest_law A0 cap0 l0 a1 a2 a3 W w0).mono fun e W' ⟨he, bel⟩ => ?_
  subst he
  exact ⟨_, rfl, _, _, _, [], _, [], hW', trodAll_mk1 (shut_bool Try.underlying4 _), (trodAll_cons_mk (Below.trod laidOut (by kernel_rfl) (of_decide_eq_true (by kernel_rfl)) h0 bel lt0) (trodAll_cons_mk (Below.trod laidOut (by kernel_rfl) (of_decide_eq_true (by kernel_rfl)) h1 bel lt1) (trodAll_cons_mk (Below.trod laidOut (by kernel_rfl) (of_decide_eq_true (by kernel_rfl)) h2 bel lt2) (trodAll_cons_mk (Below.trod laidOut (by kernel_rfl) (of_decide_eq_true (by kernel_rfl)) h3 bel lt3) trodAll_mk0)))), rfl, bel.frame _, fun h => by cases h⟩

theorem leafgenWidest_holds : Rows.LeafgenWidestSaid :=
  OpenClaim.holds_of_wide 8 Try.f8 rfl rfl rfl rfl rfl rfl rfl ⟨rfl, rfl, rfl, rfl, rfl⟩ rfl rfl rfl rfl rfl (by kernel_rfl) Try.func8 (by kernel_rfl)
    (of_decide_eq_true (by kernel_rfl)) (by unfold Func.isWrapper; first | (rw [if_pos (by decide +kernel)]; kernel_rfl) | (rw [if_neg (by decide +kernel)]; exact ⟨rfl, rfl⟩))
    (fun os started H enc _ => leafgenWidest_lifted os started H enc)

end Go.Proofs.Ytnmjofccedjkkaa
