/-
  LeafgenGood: for every input the call returns true, and each argument reads afterwards as it read before. No condition.
-/
import Derived.Test.YtnmjofccedjkkaaH1
namespace Go.Proofs.Ytnmjofccedjkkaa
open Go.RowKit Go.Maps
set_option maxRecDepth 100000


set_option maxHeartbeats 8000000 in
theorem leafgood_law (A : Option Addr) (cap : Nat) (ls : List Pr) (a : Ad) (w : World) (hr : RdQ w A ls) :
    Calls Try.prog 4 #[.slice A ls.length cap, .agg #[.int .u64 (u a.hi), .int .u64 (u a.lo), .bool a.v6]] w fun e w' => e = .returned (.bool true) ∧ Below w.heap.size w w' := by
  have HRD := Lib.hid hr
  clear hr
  by_cases hlen : 60 < ls.length
  · have t0 : decide ((60 : Int) < (ls.length : Int)) = true := by simp; omega
    go_enter Try.func4, Try.ntmps4
    go_wp2_with fail
    refine (awake7_any _).mono ?_
    rintro e w1 ⟨rfl, hw1⟩
    have b1 : Below w.heap.size w w1 := below_of (by go_grown) hw1
    go_wp2
    go_ret
    exact ⟨rfl, b1⟩
  · have t0 : decide ((60 : Int) < (ls.length : Int)) = false := by simp; omega
    go_enter Try.func4, Try.ntmps4
    go_wp2_with fail
    refine (awake7_any _).mono ?_
    rintro e w1 ⟨rfl, hw1⟩
    have b1 : Below w.heap.size w w1 := below_of (by go_grown) hw1
    have Hp1 : Hid (ABox w1 (w.heap.size) a) := Lib.hid (ABox.keep ⟨by go_simp <;> rfl, by go_simp <;> rfl, by go_simp <;> rfl, by go_size⟩ hw1)
    have v1 := Hp1.out.2.2.2
    clear hw1
    go_wp2_with fail
    refine (filled_any A cap ls _ (HRD.out.keep b1 (Nat.le_refl _)) (by omega)).mono ?_
    rintro e w3 ⟨r, S, rfl, hR3, hm3, hS3, hb3⟩
    have Hp3 := Lib.hid (Hp1.out.keep hb3)
    have b3 := b1.trans (hb3.mono b1.size)
    have z1 := b1.size
    have z3 := b3.size
    have hs3 := hR3.srt
    generalize (fillK ls ls.length).1 = L at hR3 hs3
    generalize (fillK ls ls.length).2 = M at hR3 hm3
    have HR3 := Lib.hid hR3
    have HS3 := Lib.hid hS3
    have HSR := Lib.hid hs3
    clear hR3 hS3 hs3 hb3 HRD b1 t0 Hp1
    obtain ⟨P, hP⟩ : ∃ P, wideP L a 0 = P := ⟨_, rfl⟩
    have fI := (wide_spec L a 0).2.2.1
    have fC := wide_con L a 0
    have fP := wide_parent L a
    have cb := fun W (H : RibS W r S 200 200 L M) => block_any H a
    have cl := fun W (H : RibS W r S 200 200 L M) => leaf_any H a
    have cx := fun W (H : RibS W r S 200 200 L M) => exact_any H a
    have cy := fun W (H : RibS W r S 200 200 L M) => rib_longest H a
    have gl := @leaf_good L a
    have gx := @exact_good L a
    have le := leaf_eq L a
    have lx : exactO L a = (longL L a).map fun x => ⟨pof a (wid a.v6), x.v⟩ := rfl
    unfold OptPost at cl cx cy
    rw [hP] at fI fC fP cb le
    have cp := pparent_any P
    obtain ⟨Q, hQ⟩ : ∃ Q, (pparent P).1 = Q := ⟨_, rfl⟩
    obtain ⟨hs, hh⟩ : ∃ hs, (pparent P).2 = hs := ⟨_, rfl⟩
    rw [hQ, hh] at cp fP
    have ci := fun W (H : RibS W r S 200 200 L M) => rib_ins H P
    have cj := fun W (H : RibS W r S 200 200 L M) => rib_ins H Q
    have cc := pcon_any P a
    rw [fI] at ci
    rw [fC] at cc
    obtain ⟨F, hF⟩ : ∃ F, pof a (wid a.v6) = F := ⟨_, rfl⟩
    rw [hF] at lx
    have CB := Lib.hid cb
    have CP := Lib.hid cp
    have CI := Lib.hid ci
    have CC := Lib.hid cc
    clear hP hF hQ hh cb cp ci cc fI fC
    cases hl : longL L a
    · rw [hl] at le lx cy
      rw [le] at cl
      rw [lx] at cx
      simp only [Option.map_none, Option.getD_none, Option.isSome_none] at cl cx cy
      have tz : prB (u nilPr.p.a.hi) (u nilPr.p.a.lo) nilPr.p.a.v6 nilPr.p.n nilPr.v 0 0 false 0 0 = true := by decide
      obtain ⟨y, hy⟩ : ∃ y, nilPr = y := ⟨_, rfl⟩
      rw [hy] at cl cx cy tz
      have CL := Lib.hid cl
      have CX := Lib.hid cx
      have CY := Lib.hid cy
      have CJ := Lib.hid cj
      have FP := Lib.hid fP
      clear hl le lx cl cx cy cj fP gl gx hy
      obtain ⟨pa, pb, pc, pz⟩ := id Hp3.out
      go_wp2_with fail
      refine (CL.out _ HR3.out).mono ?_
      rintro e w4 ⟨rfl, hw⟩
      have ee := hw
      have Hp4 := Lib.hid (Hp3.out.keep ee)
      have HR4 := Lib.hid (HR3.out.keep ee)
      have b4 := b3.trans (ee.mono b3.size)
      have z4 := b4.size
      have y4 := ee.size
      clear hw ee HR3 Hp3 pa pb pc pz
      obtain ⟨pa, pb, pc, pz⟩ := id Hp4.out
      have pn0 : ¬ w.heap.size = w4.heap.size := by omega
      go_wp2_with fail
      refine (CY.out _ (HR4.out.keep (by go_grown))).mono ?_
      rintro e w5 ⟨rfl, hw⟩
      have ee : Below w4.heap.size w4 w5 := below_of (by go_grown) hw
      have Hx5 : Hid (QBox w5 (w4.heap.size) y) := Lib.hid (QBox.kept (by refine ⟨?_, ?_, ?_, ?_, ?_, ?_⟩ <;> first | (go_simp; done) | (go_simp <;> rfl) | go_size) hw)
      have Hp5 := Lib.hid (Hp4.out.keep ee)
      have HR5 := Lib.hid (HR4.out.keep ee)
      have b5 := b4.trans (ee.mono b4.size)
      have z5 := b5.size
      have y5 := ee.size
      clear hw ee HR4 Hp4 pa pb pc pz pn0
      obtain ⟨pa, pb, pc, pz⟩ := id Hp5.out
      have pn0 : ¬ w.heap.size = w5.heap.size := by omega
      go_wp2_with fail
      refine (CB.out _ (HR5.out.keep (by go_grown))).mono ?_
      rintro e w6 ⟨rfl, hw⟩
      have ee : Below w5.heap.size w5 w6 := below_of (by go_grown) hw
      have Hy6 : Hid (QBox w6 (w5.heap.size) y) := Lib.hid (QBox.kept (by refine ⟨?_, ?_, ?_, ?_, ?_, ?_⟩ <;> first | (go_simp; done) | (go_simp <;> rfl) | go_size) hw)
      have Hp6 := Lib.hid (Hp5.out.keep ee)
      have Hx6 := Lib.hid (Hx5.out.kept ee)
      have HR6 := Lib.hid (HR5.out.keep ee)
      have b6 := b5.trans (ee.mono b5.size)
      have z6 := b6.size
      have y6 := ee.size
      clear hw ee HR5 Hp5 Hx5 pa pb pc pz pn0
      go_wp2_with fail
      refine (CP.out _).mono ?_
      rintro e w7 ⟨rfl, hw⟩
      have ee : Below w6.heap.size w6 w7 := below_of (by go_grown) hw
      have Hb7 : Hid (PBox w7 (w6.heap.size) P) := Lib.hid (PBox.keep (by exact ⟨by go_simp <;> rfl, by go_simp <;> rfl, by go_simp <;> rfl, by go_simp <;> rfl, by go_simp <;> rfl, by go_simp <;> rfl, by go_simp <;> rfl, by go_simp <;> rfl, by go_size⟩) hw)
      have Hp7 := Lib.hid (Hp6.out.keep ee)
      have Hx7 := Lib.hid (Hx6.out.kept ee)
      have Hy7 := Lib.hid (Hy6.out.kept ee)
      have HR7 := Lib.hid (HR6.out.keep ee)
      have b7 := b6.trans (ee.mono b6.size)
      have z7 := b7.size
      have y7 := ee.size
      clear hw ee HR6 Hp6 Hx6 Hy6
      obtain ⟨pa, pb, pc, pz⟩ := id Hp7.out
      have pn0 : ¬ w.heap.size = w7.heap.size := by omega
      go_wp2_with fail
      refine (CX.out _ (HR7.out.keep (by go_grown))).mono ?_
      rintro e w8 ⟨rfl, hw⟩
      have ee : Below w7.heap.size w7 w8 := below_of (by go_grown) hw
      have Hq8 : Hid (PBox w8 (w7.heap.size) Q) := Lib.hid (PBox.keep (by exact ⟨by go_simp <;> rfl, by go_simp <;> rfl, by go_simp <;> rfl, by go_simp <;> rfl, by go_simp <;> rfl, by go_simp <;> rfl, by go_simp <;> rfl, by go_simp <;> rfl, by go_size⟩) hw)
      have Hp8 := Lib.hid (Hp7.out.keep ee)
      have Hx8 := Lib.hid (Hx7.out.kept ee)
      have Hy8 := Lib.hid (Hy7.out.kept ee)
      have Hb8 := Lib.hid (Hb7.out.keep ee)
      have HR8 := Lib.hid (HR7.out.keep ee)
      have b8 := b7.trans (ee.mono b7.size)
      have z8 := b8.size
      have y8 := ee.size
      clear hw ee HR7 Hp7 Hx7 Hy7 Hb7 pa pb pc pz pn0
      cases hs
      · obtain ⟨ba, bb, bc, bg, -, -, -, -, bz⟩ := id Hb8.out
        have bn0 : ¬ w6.heap.size = w8.heap.size := by omega
        go_wp2_with fail
        refine (CI.out _ (HR8.out.keep (by go_grown))).mono ?_
        rintro e w9 ⟨rfl, hw⟩
        have ee : Below w8.heap.size w8 w9 := below_of (by go_grown) hw
        have He9 : Hid (QBox w9 (w8.heap.size) y) := Lib.hid (QBox.kept (by refine ⟨?_, ?_, ?_, ?_, ?_, ?_⟩ <;> first | (go_simp; done) | (go_simp <;> rfl) | go_size) hw)
        have Hp9 := Lib.hid (Hp8.out.keep ee)
        have Hx9 := Lib.hid (Hx8.out.kept ee)
        have Hy9 := Lib.hid (Hy8.out.kept ee)
        have Hb9 := Lib.hid (Hb8.out.keep ee)
        have Hq9 := Lib.hid (Hq8.out.keep ee)
        have HR9 := Lib.hid (HR8.out.keep ee)
        have b9 := b8.trans (ee.mono b8.size)
        have z9 := b9.size
        have y9 := ee.size
        clear hw ee HR8 Hp8 Hx8 Hy8 Hb8 Hq8 ba bb bc bg bz bn0
        obtain ⟨ba, bb, bc, bg, -, -, -, -, bz⟩ := id Hb9.out
        obtain ⟨pa, pb, pc, pz⟩ := id Hp9.out
        go_wp2_with fail
        refine (CC.out _).mono ?_
        rintro e w10 ⟨rfl, hw⟩
        have ee := hw
        have Hp10 := Lib.hid (Hp9.out.keep ee)
        have Hx10 := Lib.hid (Hx9.out.kept ee)
        have Hy10 := Lib.hid (Hy9.out.kept ee)
        have Hb10 := Lib.hid (Hb9.out.keep ee)
        have Hq10 := Lib.hid (Hq9.out.keep ee)
        have He10 := Lib.hid (He9.out.kept ee)
        have HR10 := Lib.hid (HR9.out.keep ee)
        have b10 := b9.trans (ee.mono b9.size)
        have z10 := b10.size
        have y10 := ee.size
        clear hw ee HR9 Hp9 Hx9 Hy9 Hb9 Hq9 He9 ba bb bc bg bz pa pb pc pz
        obtain ⟨x0, x1, x2, x3, x4, xz⟩ := id Hx10.out
        go_wp2
        go_ret
        exact ⟨rfl, b10⟩
      · have cj := fun W (H : RibS W r S 200 200 L M) => CJ.out W H
        rw [FP.out rfl] at cj
        have CK := Lib.hid cj
        clear cj
        obtain ⟨qa, qb, qc, qg, -, -, -, -, qz⟩ := id Hq8.out
        have qn0 : ¬ w7.heap.size = w8.heap.size := by omega
        go_wp2_with fail
        refine (CK.out _ (HR8.out.keep (by go_grown))).mono ?_
        rintro e w9 ⟨rfl, hw⟩
        have ee : Below w8.heap.size w8 w9 := below_of (by go_grown) hw
        have He9 : Hid (QBox w9 (w8.heap.size) y) := Lib.hid (QBox.kept (by refine ⟨?_, ?_, ?_, ?_, ?_, ?_⟩ <;> first | (go_simp; done) | (go_simp <;> rfl) | go_size) hw)
        have Hp9 := Lib.hid (Hp8.out.keep ee)
        have Hx9 := Lib.hid (Hx8.out.kept ee)
        have Hy9 := Lib.hid (Hy8.out.kept ee)
        have Hb9 := Lib.hid (Hb8.out.keep ee)
        have Hq9 := Lib.hid (Hq8.out.keep ee)
        have HR9 := Lib.hid (HR8.out.keep ee)
        have b9 := b8.trans (ee.mono b8.size)
        have z9 := b9.size
        have y9 := ee.size
        clear hw ee HR8 Hp8 Hx8 Hy8 Hb8 Hq8 qa qb qc qg qz qn0
        obtain ⟨ba, bb, bc, bg, -, -, -, -, bz⟩ := id Hb9.out
        go_wp2_with fail
        refine (CI.out _ HR9.out).mono ?_
        rintro e w10 ⟨rfl, hw⟩
        have ee := hw
        have Hp10 := Lib.hid (Hp9.out.keep ee)
        have Hx10 := Lib.hid (Hx9.out.kept ee)
        have Hy10 := Lib.hid (Hy9.out.kept ee)
        have Hb10 := Lib.hid (Hb9.out.keep ee)
        have Hq10 := Lib.hid (Hq9.out.keep ee)
        have He10 := Lib.hid (He9.out.kept ee)
        have HR10 := Lib.hid (HR9.out.keep ee)
        have b10 := b9.trans (ee.mono b9.size)
        have z10 := b10.size
        have y10 := ee.size
        clear hw ee HR9 Hp9 Hx9 Hy9 Hb9 Hq9 He9 ba bb bc bg bz
        obtain ⟨ba, bb, bc, bg, -, -, -, -, bz⟩ := id Hb10.out
        obtain ⟨pa, pb, pc, pz⟩ := id Hp10.out
        go_wp2_with fail
        refine (CC.out _).mono ?_
        rintro e w11 ⟨rfl, hw⟩
        have ee := hw
        have Hp11 := Lib.hid (Hp10.out.keep ee)
        have Hx11 := Lib.hid (Hx10.out.kept ee)
        have Hy11 := Lib.hid (Hy10.out.kept ee)
        have Hb11 := Lib.hid (Hb10.out.keep ee)
        have Hq11 := Lib.hid (Hq10.out.keep ee)
        have He11 := Lib.hid (He10.out.kept ee)
        have HR11 := Lib.hid (HR10.out.keep ee)
        have b11 := b10.trans (ee.mono b10.size)
        have z11 := b11.size
        have y11 := ee.size
        clear hw ee HR10 Hp10 Hx10 Hy10 Hb10 Hq10 He10 ba bb bc bg bz pa pb pc pz
        obtain ⟨x0, x1, x2, x3, x4, xz⟩ := id Hx11.out
        go_wp2
        go_ret
        exact ⟨rfl, b11⟩
    · rename_i y
      rw [hl] at le lx cy
      have g1 := gl le
      have g2 := gx lx
      rw [le] at cl
      rw [lx] at cx
      simp only [Option.map_some, Option.getD_some, Option.isSome_some] at cl cx cy
      have cg := fun W (H : RibS W r S 200 200 L M) => good_any H ⟨P, y.v⟩
      have ch := fun W (H : RibS W r S 200 200 L M) => good_any H ⟨F, y.v⟩
      rw [g1] at cg
      rw [g2] at ch
      have CL := Lib.hid cl
      have CX := Lib.hid cx
      have CY := Lib.hid cy
      have CJ := Lib.hid cj
      have CG := Lib.hid cg
      have CH := Lib.hid ch
      have FP := Lib.hid fP
      clear hl le lx cl cx cy cj fP gl gx g1 g2 cg ch
      obtain ⟨pa, pb, pc, pz⟩ := id Hp3.out
      go_wp2_with fail
      refine (CL.out _ HR3.out).mono ?_
      rintro e w4 ⟨rfl, hw⟩
      have ee := hw
      have Hp4 := Lib.hid (Hp3.out.keep ee)
      have HR4 := Lib.hid (HR3.out.keep ee)
      have b4 := b3.trans (ee.mono b3.size)
      have z4 := b4.size
      have y4 := ee.size
      clear hw ee HR3 Hp3 pa pb pc pz
      obtain ⟨pa, pb, pc, pz⟩ := id Hp4.out
      have pn0 : ¬ w.heap.size = w4.heap.size := by omega
      go_wp2_with fail
      refine (CY.out _ (HR4.out.keep (by go_grown))).mono ?_
      rintro e w5 ⟨rfl, hw⟩
      have ee : Below w4.heap.size w4 w5 := below_of (by go_grown) hw
      have Hx5 : Hid (QBox w5 (w4.heap.size) ⟨P, y.v⟩) := Lib.hid (QBox.kept (by refine ⟨?_, ?_, ?_, ?_, ?_, ?_⟩ <;> first | (go_simp; done) | (go_simp <;> rfl) | go_size) hw)
      have Hp5 := Lib.hid (Hp4.out.keep ee)
      have HR5 := Lib.hid (HR4.out.keep ee)
      have b5 := b4.trans (ee.mono b4.size)
      have z5 := b5.size
      have y5 := ee.size
      clear hw ee HR4 Hp4 pa pb pc pz pn0
      obtain ⟨pa, pb, pc, pz⟩ := id Hp5.out
      have pn0 : ¬ w.heap.size = w5.heap.size := by omega
      go_wp2_with fail
      refine (CB.out _ (HR5.out.keep (by go_grown))).mono ?_
      rintro e w6 ⟨rfl, hw⟩
      have ee : Below w5.heap.size w5 w6 := below_of (by go_grown) hw
      have Hy6 : Hid (QBox w6 (w5.heap.size) y) := Lib.hid (QBox.kept (by refine ⟨?_, ?_, ?_, ?_, ?_, ?_⟩ <;> first | (go_simp; done) | (go_simp <;> rfl) | go_size) hw)
      have Hp6 := Lib.hid (Hp5.out.keep ee)
      have Hx6 := Lib.hid (Hx5.out.kept ee)
      have HR6 := Lib.hid (HR5.out.keep ee)
      have b6 := b5.trans (ee.mono b5.size)
      have z6 := b6.size
      have y6 := ee.size
      clear hw ee HR5 Hp5 Hx5 pa pb pc pz pn0
      go_wp2_with fail
      refine (CP.out _).mono ?_
      rintro e w7 ⟨rfl, hw⟩
      have ee : Below w6.heap.size w6 w7 := below_of (by go_grown) hw
      have Hb7 : Hid (PBox w7 (w6.heap.size) P) := Lib.hid (PBox.keep (by exact ⟨by go_simp <;> rfl, by go_simp <;> rfl, by go_simp <;> rfl, by go_simp <;> rfl, by go_simp <;> rfl, by go_simp <;> rfl, by go_simp <;> rfl, by go_simp <;> rfl, by go_size⟩) hw)
      have Hp7 := Lib.hid (Hp6.out.keep ee)
      have Hx7 := Lib.hid (Hx6.out.kept ee)
      have Hy7 := Lib.hid (Hy6.out.kept ee)
      have HR7 := Lib.hid (HR6.out.keep ee)
      have b7 := b6.trans (ee.mono b6.size)
      have z7 := b7.size
      have y7 := ee.size
      clear hw ee HR6 Hp6 Hx6 Hy6
      obtain ⟨pa, pb, pc, pz⟩ := id Hp7.out
      have pn0 : ¬ w.heap.size = w7.heap.size := by omega
      go_wp2_with fail
      refine (CX.out _ (HR7.out.keep (by go_grown))).mono ?_
      rintro e w8 ⟨rfl, hw⟩
      have ee : Below w7.heap.size w7 w8 := below_of (by go_grown) hw
      have Hq8 : Hid (PBox w8 (w7.heap.size) Q) := Lib.hid (PBox.keep (by exact ⟨by go_simp <;> rfl, by go_simp <;> rfl, by go_simp <;> rfl, by go_simp <;> rfl, by go_simp <;> rfl, by go_simp <;> rfl, by go_simp <;> rfl, by go_simp <;> rfl, by go_size⟩) hw)
      have Hp8 := Lib.hid (Hp7.out.keep ee)
      have Hx8 := Lib.hid (Hx7.out.kept ee)
      have Hy8 := Lib.hid (Hy7.out.kept ee)
      have Hb8 := Lib.hid (Hb7.out.keep ee)
      have HR8 := Lib.hid (HR7.out.keep ee)
      have b8 := b7.trans (ee.mono b7.size)
      have z8 := b8.size
      have y8 := ee.size
      clear hw ee HR7 Hp7 Hx7 Hy7 Hb7 pa pb pc pz pn0
      cases hs
      · obtain ⟨ba, bb, bc, bg, -, -, -, -, bz⟩ := id Hb8.out
        have bn0 : ¬ w6.heap.size = w8.heap.size := by omega
        go_wp2_with fail
        refine (CI.out _ (HR8.out.keep (by go_grown))).mono ?_
        rintro e w9 ⟨rfl, hw⟩
        have ee : Below w8.heap.size w8 w9 := below_of (by go_grown) hw
        have He9 : Hid (QBox w9 (w8.heap.size) ⟨F, y.v⟩) := Lib.hid (QBox.kept (by refine ⟨?_, ?_, ?_, ?_, ?_, ?_⟩ <;> first | (go_simp; done) | (go_simp <;> rfl) | go_size) hw)
        have Hp9 := Lib.hid (Hp8.out.keep ee)
        have Hx9 := Lib.hid (Hx8.out.kept ee)
        have Hy9 := Lib.hid (Hy8.out.kept ee)
        have Hb9 := Lib.hid (Hb8.out.keep ee)
        have Hq9 := Lib.hid (Hq8.out.keep ee)
        have HR9 := Lib.hid (HR8.out.keep ee)
        have b9 := b8.trans (ee.mono b8.size)
        have z9 := b9.size
        have y9 := ee.size
        clear hw ee HR8 Hp8 Hx8 Hy8 Hb8 Hq8 ba bb bc bg bz bn0
        obtain ⟨ba, bb, bc, bg, -, -, -, -, bz⟩ := id Hb9.out
        obtain ⟨pa, pb, pc, pz⟩ := id Hp9.out
        go_wp2_with fail
        refine (CC.out _).mono ?_
        rintro e w10 ⟨rfl, hw⟩
        have ee := hw
        have Hp10 := Lib.hid (Hp9.out.keep ee)
        have Hx10 := Lib.hid (Hx9.out.kept ee)
        have Hy10 := Lib.hid (Hy9.out.kept ee)
        have Hb10 := Lib.hid (Hb9.out.keep ee)
        have Hq10 := Lib.hid (Hq9.out.keep ee)
        have He10 := Lib.hid (He9.out.kept ee)
        have HR10 := Lib.hid (HR9.out.keep ee)
        have b10 := b9.trans (ee.mono b9.size)
        have z10 := b10.size
        have y10 := ee.size
        clear hw ee HR9 Hp9 Hx9 Hy9 Hb9 Hq9 He9 ba bb bc bg bz pa pb pc pz
        obtain ⟨x0, x1, x2, x3, x4, xz⟩ := id Hx10.out
        obtain ⟨y0, y1, y2, y3, y4, yz⟩ := id Hy10.out
        obtain ⟨ba, bb, bc, bg, -, -, -, -, bz⟩ := id Hb10.out
        go_wp2_with fail
        refine (CG.out _ HR10.out).mono ?_
        rintro e w11 ⟨rfl, hw⟩
        have ee := hw
        have Hp11 := Lib.hid (Hp10.out.keep ee)
        have Hx11 := Lib.hid (Hx10.out.kept ee)
        have Hy11 := Lib.hid (Hy10.out.kept ee)
        have Hb11 := Lib.hid (Hb10.out.keep ee)
        have Hq11 := Lib.hid (Hq10.out.keep ee)
        have He11 := Lib.hid (He10.out.kept ee)
        have HR11 := Lib.hid (HR10.out.keep ee)
        have b11 := b10.trans (ee.mono b10.size)
        have z11 := b11.size
        have y11 := ee.size
        clear hw ee HR10 Hp10 Hx10 Hy10 Hb10 Hq10 He10 x0 x1 x2 x3 x4 xz y0 y1 y2 y3 y4 yz ba bb bc bg bz
        obtain ⟨e0, e1, e2, e3, e4, ez⟩ := id He11.out
        go_wp2_with fail
        refine (CH.out _ HR11.out).mono ?_
        rintro e w12 ⟨rfl, hw⟩
        have ee := hw
        have Hp12 := Lib.hid (Hp11.out.keep ee)
        have Hx12 := Lib.hid (Hx11.out.kept ee)
        have Hy12 := Lib.hid (Hy11.out.kept ee)
        have Hb12 := Lib.hid (Hb11.out.keep ee)
        have Hq12 := Lib.hid (Hq11.out.keep ee)
        have He12 := Lib.hid (He11.out.kept ee)
        have HR12 := Lib.hid (HR11.out.keep ee)
        have b12 := b11.trans (ee.mono b11.size)
        have z12 := b12.size
        have y12 := ee.size
        clear hw ee HR11 Hp11 Hx11 Hy11 Hb11 Hq11 He11 e0 e1 e2 e3 e4 ez
        obtain ⟨y0, y1, y2, y3, y4, yz⟩ := id Hy12.out
        obtain ⟨e0, e1, e2, e3, e4, ez⟩ := id He12.out
        go_wp2
        go_ret
        exact ⟨rfl, b12⟩
      · have cj := fun W (H : RibS W r S 200 200 L M) => CJ.out W H
        rw [FP.out rfl] at cj
        have CK := Lib.hid cj
        clear cj
        obtain ⟨qa, qb, qc, qg, -, -, -, -, qz⟩ := id Hq8.out
        have qn0 : ¬ w7.heap.size = w8.heap.size := by omega
        go_wp2_with fail
        refine (CK.out _ (HR8.out.keep (by go_grown))).mono ?_
        rintro e w9 ⟨rfl, hw⟩
        have ee : Below w8.heap.size w8 w9 := below_of (by go_grown) hw
        have He9 : Hid (QBox w9 (w8.heap.size) ⟨F, y.v⟩) := Lib.hid (QBox.kept (by refine ⟨?_, ?_, ?_, ?_, ?_, ?_⟩ <;> first | (go_simp; done) | (go_simp <;> rfl) | go_size) hw)
        have Hp9 := Lib.hid (Hp8.out.keep ee)
        have Hx9 := Lib.hid (Hx8.out.kept ee)
        have Hy9 := Lib.hid (Hy8.out.kept ee)
        have Hb9 := Lib.hid (Hb8.out.keep ee)
        have Hq9 := Lib.hid (Hq8.out.keep ee)
        have HR9 := Lib.hid (HR8.out.keep ee)
        have b9 := b8.trans (ee.mono b8.size)
        have z9 := b9.size
        have y9 := ee.size
        clear hw ee HR8 Hp8 Hx8 Hy8 Hb8 Hq8 qa qb qc qg qz qn0
        obtain ⟨ba, bb, bc, bg, -, -, -, -, bz⟩ := id Hb9.out
        go_wp2_with fail
        refine (CI.out _ HR9.out).mono ?_
        rintro e w10 ⟨rfl, hw⟩
        have ee := hw
        have Hp10 := Lib.hid (Hp9.out.keep ee)
        have Hx10 := Lib.hid (Hx9.out.kept ee)
        have Hy10 := Lib.hid (Hy9.out.kept ee)
        have Hb10 := Lib.hid (Hb9.out.keep ee)
        have Hq10 := Lib.hid (Hq9.out.keep ee)
        have He10 := Lib.hid (He9.out.kept ee)
        have HR10 := Lib.hid (HR9.out.keep ee)
        have b10 := b9.trans (ee.mono b9.size)
        have z10 := b10.size
        have y10 := ee.size
        clear hw ee HR9 Hp9 Hx9 Hy9 Hb9 Hq9 He9 ba bb bc bg bz
        obtain ⟨ba, bb, bc, bg, -, -, -, -, bz⟩ := id Hb10.out
        obtain ⟨pa, pb, pc, pz⟩ := id Hp10.out
        go_wp2_with fail
        refine (CC.out _).mono ?_
        rintro e w11 ⟨rfl, hw⟩
        have ee := hw
        have Hp11 := Lib.hid (Hp10.out.keep ee)
        have Hx11 := Lib.hid (Hx10.out.kept ee)
        have Hy11 := Lib.hid (Hy10.out.kept ee)
        have Hb11 := Lib.hid (Hb10.out.keep ee)
        have Hq11 := Lib.hid (Hq10.out.keep ee)
        have He11 := Lib.hid (He10.out.kept ee)
        have HR11 := Lib.hid (HR10.out.keep ee)
        have b11 := b10.trans (ee.mono b10.size)
        have z11 := b11.size
        have y11 := ee.size
        clear hw ee HR10 Hp10 Hx10 Hy10 Hb10 Hq10 He10 ba bb bc bg bz pa pb pc pz
        obtain ⟨x0, x1, x2, x3, x4, xz⟩ := id Hx11.out
        obtain ⟨y0, y1, y2, y3, y4, yz⟩ := id Hy11.out
        obtain ⟨ba, bb, bc, bg, -, -, -, -, bz⟩ := id Hb11.out
        go_wp2_with fail
        refine (CG.out _ HR11.out).mono ?_
        rintro e w12 ⟨rfl, hw⟩
        have ee := hw
        have Hp12 := Lib.hid (Hp11.out.keep ee)
        have Hx12 := Lib.hid (Hx11.out.kept ee)
        have Hy12 := Lib.hid (Hy11.out.kept ee)
        have Hb12 := Lib.hid (Hb11.out.keep ee)
        have Hq12 := Lib.hid (Hq11.out.keep ee)
        have He12 := Lib.hid (He11.out.kept ee)
        have HR12 := Lib.hid (HR11.out.keep ee)
        have b12 := b11.trans (ee.mono b11.size)
        have z12 := b12.size
        have y12 := ee.size
        clear hw ee HR11 Hp11 Hx11 Hy11 Hb11 Hq11 He11 x0 x1 x2 x3 x4 xz y0 y1 y2 y3 y4 yz ba bb bc bg bz
        obtain ⟨e0, e1, e2, e3, e4, ez⟩ := id He12.out
        go_wp2_with fail
        refine (CH.out _ HR12.out).mono ?_
        rintro e w13 ⟨rfl, hw⟩
        have ee := hw
        have Hp13 := Lib.hid (Hp12.out.keep ee)
        have Hx13 := Lib.hid (Hx12.out.kept ee)
        have Hy13 := Lib.hid (Hy12.out.kept ee)
        have Hb13 := Lib.hid (Hb12.out.keep ee)
        have Hq13 := Lib.hid (Hq12.out.keep ee)
        have He13 := Lib.hid (He12.out.kept ee)
        have HR13 := Lib.hid (HR12.out.keep ee)
        have b13 := b12.trans (ee.mono b12.size)
        have z13 := b13.size
        have y13 := ee.size
        clear hw ee HR12 Hp12 Hx12 Hy12 Hb12 Hq12 He12 e0 e1 e2 e3 e4 ez
        obtain ⟨y0, y1, y2, y3, y4, yz⟩ := id Hy13.out
        obtain ⟨e0, e1, e2, e3, e4, ez⟩ := id He13.out
        go_wp2
        go_ret
        exact ⟨rfl, b13⟩

end Go.Proofs.Ytnmjofccedjkkaa

namespace Go.Proofs.Ytnmjofccedjkkaa
open Go.ChangeShapes Go.WideShapes Go.ChangeAt Go.RowKit

set_option maxRecDepth 100000 in
theorem leafgenGood_lifted (os : Os) (started : os.Started) (H : Type) (enc : TypeId × Value → H) :
    ReturnsInHanded {} Try.checked os 4 .any (Rows.leafgenGoodSpec.pre6 enc Try.prog Try.f4 Rows.leafgenGoodRow.domain false) (Rows.leafgenGoodSpec.post enc Try.prog Try.f4 false true false false) := by
  refine returnsInHanded_of_change (C := Try.checked) own started (by kernel_rfl) Try.func4
    (ChangeSpec.witness6 (enc := enc) (C := Try.checked) false ⟨#[], #[.slice none 0 0, .agg #[.int .u64 0, .int .u64 0, .bool false]], []⟩ 8 (by kernel_rfl) (by kernel_rfl) (by kernel_rfl) (by kernel_rfl)) ?_
  intro W base args ds gs before hval0 hW hcnd _
  have hval : ∀ (j : Nat) t v, Try.f4.params[j]? = some t → args[j]? = some v → Value.okWide Try.prog W .any base t v := hval0
  have hW' := hW
  obtain ⟨p, q, hA0, hV, rfl, hfz, hnd⟩ := hW
  have hA : DataW.TrodAll enc Try.prog W 0 (fun _ => true) true Try.f4.params.toList args.toList ds p := hA0
  rw [Try.params4] at hA hval
  obtain ⟨v0, vs0, d0, ds0, p0, q0, hargs, rfl, rfl, h0, r0⟩ := trodAll_cons hA
  obtain ⟨v1, vs1, d1, ds1, p1, q1, rfl, rfl, rfl, h1, r1⟩ := trodAll_cons r0
  obtain ⟨rfl, rfl, rfl⟩ := trodAll_nil r1
  obtain rfl : args = #[v0, v1] := by cases args; simp_all
  obtain ⟨rfl, rfl⟩ := trodVars_none hV
  have lt0 : ∀ x ∈ p0, x.block < W.heap.size := by obtain ⟨m, hm⟩ := h0; exact DataW.trod_lt m _ _ _ hm
  obtain ⟨A0, cap0, l0, rfl, w0⟩ := open_prs (hval 0 22 v0 rfl rfl) h0 (fun _ => rfl)
  have lt1 : ∀ x ∈ p1, x.block < W.heap.size := by obtain ⟨m, hm⟩ := h1; exact DataW.trod_lt m _ _ _ hm
  obtain ⟨a1, rfl⟩ := open_ad (hval 1 25 v1 rfl rfl) h1
  clear hA0 hval0
  refine (leafgood_law A0 cap0 l0 a1 W w0).mono fun e W' ⟨he, bel⟩ => ?_
  subst he
  exact ⟨_, rfl, _, _, _, [], _, [], hW', trodAll_mk1 (shut_bool Try.underlying4 _), (trodAll_cons_mk (Below.trod laidOut (by kernel_rfl) (of_decide_eq_true (by kernel_rfl)) h0 bel lt0) (trodAll_cons_mk (Below.trod laidOut (by kernel_rfl) (of_decide_eq_true (by kernel_rfl)) h1 bel lt1) trodAll_mk0)), rfl, bel.frame _, fun h => by cases h⟩

theorem leafgenGood_holds : Rows.LeafgenGoodSaid :=
  OpenClaim.holds_of_wide 4 Try.f4 rfl rfl rfl rfl rfl rfl rfl ⟨rfl, rfl, rfl, rfl, rfl⟩ rfl rfl rfl rfl rfl (by kernel_rfl) Try.func4 (by kernel_rfl)
    (of_decide_eq_true (by kernel_rfl)) (by unfold Func.isWrapper; first | (rw [if_pos (by decide +kernel)]; kernel_rfl) | (rw [if_neg (by decide +kernel)]; exact ⟨rfl, rfl⟩))
    (fun os started H enc _ => leafgenGood_lifted os started H enc)

end Go.Proofs.Ytnmjofccedjkkaa
