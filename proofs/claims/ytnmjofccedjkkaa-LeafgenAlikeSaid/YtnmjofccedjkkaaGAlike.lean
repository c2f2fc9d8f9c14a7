/-
  LeafgenAlike: for every input the call returns true, and each argument reads afterwards as it read before. No condition.
-/
import Derived.Test.YtnmjofccedjkkaaH1
import Derived.Test.YtnmjofccedjkkaaPi
namespace Go.Proofs.Ytnmjofccedjkkaa
open Go.RowKit Go.Maps
set_option maxRecDepth 100000


theorem leaf_same {L : List Pr} {a b : Ad} (h : pcon (wideP L a 0) b = true) : leafO L b = leafO L a := by
  unfold leafO
  rw [wide_same h]
theorem pfB_no {p q : Pf} (h : p ≠ q) : pfB (u p.a.hi) (u p.a.lo) p.a.v6 p.n (u q.a.hi) (u q.a.lo) q.a.v6 q.n = false := bool_not fun e => h ((pfEq_iff p q).1 e)

set_option maxHeartbeats 8000000 in
theorem leafalike_law (A : Option Addr) (cap : Nat) (ls : List Pr) (a b : Ad) (w : World) (hr : RdQ w A ls) :
    Calls Try.prog 5 #[.slice A ls.length cap, .agg #[.int .u64 (u a.hi), .int .u64 (u a.lo), .bool a.v6], .agg #[.int .u64 (u b.hi), .int .u64 (u b.lo), .bool b.v6]] w fun e w' => e = .returned (.bool true) ∧ Below w.heap.size w w' := by
  have HRD := Lib.hid hr
  clear hr
  by_cases hlen : 60 < ls.length
  · have t0 : decide ((60 : Int) < (ls.length : Int)) = true := by simp; omega
    go_enter Try.func5, Try.ntmps5
    go_wp2_with fail
    refine (awake7_any _).mono ?_
    rintro e w1 ⟨rfl, hw1⟩
    have b1 : Below w.heap.size w w1 := below_of (by go_grown) hw1
    go_wp2
    go_ret
    exact ⟨rfl, b1⟩
  · have t0 : decide ((60 : Int) < (ls.length : Int)) = false := by simp; omega
    go_enter Try.func5, Try.ntmps5
    go_wp2_with fail
    refine (awake7_any _).mono ?_
    rintro e w1 ⟨rfl, hw1⟩
    have b1 : Below w.heap.size w w1 := below_of (by go_grown) hw1
    have Hp1 : Hid (ABox w1 (w.heap.size) a) := Lib.hid (ABox.keep ⟨by go_simp <;> rfl, by go_simp <;> rfl, by go_simp <;> rfl, by go_size⟩ hw1)
    have Hq1 : Hid (ABox w1 (w.heap.size + 1) b) := Lib.hid (ABox.keep ⟨by go_simp <;> rfl, by go_simp <;> rfl, by go_simp <;> rfl, by go_size⟩ hw1)
    have v1 := Hq1.out.2.2.2
    clear hw1
    go_wp2_with fail
    refine (filled_any A cap ls _ (HRD.out.keep b1 (Nat.le_refl _)) (by omega)).mono ?_
    rintro e w3 ⟨r, S, rfl, hR3, hm3, hS3, hb3⟩
    have Hp3 := Lib.hid (Hp1.out.keep hb3)
    have Hq3 := Lib.hid (Hq1.out.keep hb3)
    have b3 := b1.trans (hb3.mono b1.size)
    have z1 := b1.size
    have z3 := b3.size
    have hs3 := hR3.srt
    generalize (fillK ls ls.length).1 = L at hR3 hs3
    generalize (fillK ls ls.length).2 = M at hR3 hm3
    have HR3 := Lib.hid hR3
    have HS3 := Lib.hid hS3
    have HSR := Lib.hid hs3
    clear hR3 hS3 hs3 hb3 HRD b1 t0 Hp1 Hq1
    obtain ⟨c1, c2⟩ := wide_two L a b 0
    have cb1 := fun W (H : RibS W r S 200 200 L M) => block_any H a
    have cb2 := fun W (H : RibS W r S 200 200 L M) => block_any H b
    have cl1 := fun W (H : RibS W r S 200 200 L M) => leaf_any H a
    have cl2 := fun W (H : RibS W r S 200 200 L M) => leaf_any H b
    have cn := pcon_any (wideP L a 0) b
    have cp := papa_any (wideP L a 0) (wideP L b 0)
    have ce := pends_any (wideP L a 0)
    have l1 : leafO L (maskv (wideP L a 0).a (wideP L a 0).n) = leafO L a := leaf_same (by rw [first_eq _ (wide_sane L a 0)]; exact con_first _ (wide_sane L a 0))
    have l2 : leafO L (fillv (wideP L a 0).a (wideP L a 0).n) = leafO L a := leaf_same (con_last _ (wide_sane L a 0))
    have cl3 := fun W (H : RibS W r S 200 200 L M) => leaf_any H (maskv (wideP L a 0).a (wideP L a 0).n)
    have cl4 := fun W (H : RibS W r S 200 200 L M) => leaf_any H (fillv (wideP L a 0).a (wideP L a 0).n)
    have lb := @leaf_same L a b
    rw [l1] at cl3
    rw [l2] at cl4
    unfold OptPost at cl1 cl2 cl3 cl4
    obtain ⟨F1, hF1⟩ : ∃ F, maskv (wideP L a 0).a (wideP L a 0).n = F := ⟨_, rfl⟩
    obtain ⟨F2, hF2⟩ : ∃ F, fillv (wideP L a 0).a (wideP L a 0).n = F := ⟨_, rfl⟩
    rw [hF1] at ce cl3
    rw [hF2] at ce cl4
    rw [c1] at cn lb
    obtain ⟨P, hP⟩ : ∃ P, wideP L a 0 = P := ⟨_, rfl⟩
    obtain ⟨Q, hQ⟩ : ∃ Q, wideP L b 0 = Q := ⟨_, rfl⟩
    rw [hP] at cn cp ce cb1 c2 lb
    rw [hQ] at cn cp cb2 c2 lb
    obtain ⟨O, hO⟩ : ∃ O, leafO L a = O := ⟨_, rfl⟩
    rw [hO] at cl1 cl3 cl4 lb
    obtain ⟨O2, hO2⟩ : ∃ O, leafO L b = O := ⟨_, rfl⟩
    rw [hO2] at cl2 lb
    obtain ⟨X, hX⟩ : ∃ X, O.getD nilPr = X := ⟨_, rfl⟩
    obtain ⟨ok, hk⟩ : ∃ ok, O.isSome = ok := ⟨_, rfl⟩
    rw [hX, hk] at cl1 cl3 cl4
    clear c1 l1 l2 hF1 hF2 hP hQ hO hO2
    by_cases hPQ : P = Q
    · subst hPQ
      rw [lb (decide_eq_true rfl), hX, hk] at cl2
      rw [decide_eq_true (show P = P from rfl)] at cn
      clear lb c2 cp hX hk
      have CB1 := Lib.hid cb1
      have CB2 := Lib.hid cb2
      have CL1 := Lib.hid cl1
      have CL2 := Lib.hid cl2
      have CL3 := Lib.hid cl3
      have CL4 := Lib.hid cl4
      have CN := Lib.hid cn
      have CE := Lib.hid ce
      clear cb1 cb2 cl1 cl2 cl3 cl4 cn ce
      obtain ⟨pa, pb, pc, pz⟩ := id Hp3.out
      go_wp2_with fail
      refine (CL1.out _ HR3.out).mono ?_
      rintro e w4 ⟨rfl, hw⟩
      have ee := hw
      have Hp4 := Lib.hid (Hp3.out.keep ee)
      have Hq4 := Lib.hid (Hq3.out.keep ee)
      have HR4 := Lib.hid (HR3.out.keep ee)
      have b4 := b3.trans (ee.mono b3.size)
      have z4 := b4.size
      have y4 := ee.size
      clear hw ee HR3 Hp3 Hq3 pa pb pc pz
      obtain ⟨qa, qb, qc, qz⟩ := id Hq4.out
      have qn0 : ¬ w.heap.size + 1 = w4.heap.size := by omega
      go_wp2_with fail
      refine (CL2.out _ (HR4.out.keep (by go_grown))).mono ?_
      rintro e w5 ⟨rfl, hw⟩
      have ee : Below w4.heap.size w4 w5 := below_of (by go_grown) hw
      have Hx5 : Hid (QBox w5 (w4.heap.size) X) := Lib.hid (QBox.kept (by refine ⟨?_, ?_, ?_, ?_, ?_, ?_⟩ <;> first | (go_simp; done) | (go_simp <;> rfl) | go_size) hw)
      have Hp5 := Lib.hid (Hp4.out.keep ee)
      have Hq5 := Lib.hid (Hq4.out.keep ee)
      have HR5 := Lib.hid (HR4.out.keep ee)
      have b5 := b4.trans (ee.mono b4.size)
      have z5 := b5.size
      have y5 := ee.size
      clear hw ee HR4 Hp4 Hq4 qa qb qc qz qn0
      obtain ⟨pa, pb, pc, pz⟩ := id Hp5.out
      have pn0 : ¬ w.heap.size = w5.heap.size := by omega
      go_wp2_with fail
      refine (CB1.out _ (HR5.out.keep (by go_grown))).mono ?_
      rintro e w6 ⟨rfl, hw⟩
      have ee : Below w5.heap.size w5 w6 := below_of (by go_grown) hw
      have Hy6 : Hid (QBox w6 (w5.heap.size) X) := Lib.hid (QBox.kept (by refine ⟨?_, ?_, ?_, ?_, ?_, ?_⟩ <;> first | (go_simp; done) | (go_simp <;> rfl) | go_size) hw)
      have Hp6 := Lib.hid (Hp5.out.keep ee)
      have Hq6 := Lib.hid (Hq5.out.keep ee)
      have Hx6 := Lib.hid (Hx5.out.kept ee)
      have HR6 := Lib.hid (HR5.out.keep ee)
      have b6 := b5.trans (ee.mono b5.size)
      have z6 := b6.size
      have y6 := ee.size
      clear hw ee HR5 Hp5 Hq5 Hx5 pa pb pc pz pn0
      obtain ⟨qa, qb, qc, qz⟩ := id Hq6.out
      have qn0 : ¬ w.heap.size + 1 = w6.heap.size := by omega
      go_wp2_with fail
      refine (CB2.out _ (HR6.out.keep (by go_grown))).mono ?_
      rintro e w7 ⟨rfl, hw⟩
      have ee : Below w6.heap.size w6 w7 := below_of (by go_grown) hw
      have Hb7 : Hid (PBox w7 (w6.heap.size) P) := Lib.hid (PBox.keep (by exact ⟨by go_simp <;> rfl, by go_simp <;> rfl, by go_simp <;> rfl, by go_simp <;> rfl, by go_simp <;> rfl, by go_simp <;> rfl, by go_simp <;> rfl, by go_simp <;> rfl, by go_size⟩) hw)
      have Hp7 := Lib.hid (Hp6.out.keep ee)
      have Hq7 := Lib.hid (Hq6.out.keep ee)
      have Hx7 := Lib.hid (Hx6.out.kept ee)
      have Hy7 := Lib.hid (Hy6.out.kept ee)
      have HR7 := Lib.hid (HR6.out.keep ee)
      have b7 := b6.trans (ee.mono b6.size)
      have z7 := b7.size
      have y7 := ee.size
      clear hw ee HR6 Hp6 Hq6 Hx6 Hy6 qa qb qc qz qn0
      go_wp2_with fail
      generalize hV : World.alloc _ _ = w8
      have ee : Below w7.heap.size w7 w8 := by subst hV; go_grown
      have Hc8 : Hid (PBox w8 (w7.heap.size) P) := Lib.hid (by subst hV; exact ⟨by go_simp <;> rfl, by go_simp <;> rfl, by go_simp <;> rfl, by go_simp <;> rfl, by go_simp <;> rfl, by go_simp <;> rfl, by go_simp <;> rfl, by go_simp <;> rfl, by go_size⟩)
      have Hp8 := Lib.hid (Hp7.out.keep ee)
      have Hq8 := Lib.hid (Hq7.out.keep ee)
      have Hx8 := Lib.hid (Hx7.out.kept ee)
      have Hy8 := Lib.hid (Hy7.out.kept ee)
      have Hb8 := Lib.hid (Hb7.out.keep ee)
      have HR8 := Lib.hid (HR7.out.keep ee)
      have b8 := b7.trans (ee.mono b7.size)
      have z8 := b8.size
      have y8 := ee.size
      clear hV ee HR7 Hp7 Hq7 Hx7 Hy7 Hb7
      obtain ⟨ba, bb, bc, bg, -, -, -, -, bz⟩ := id Hb8.out
      obtain ⟨ca, cb, cc, cg, -, -, -, -, cz⟩ := id Hc8.out
      obtain ⟨qa, qb, qc, qz⟩ := id Hq8.out
      have Lba := fun x : Later w8.heap.size w8 => (x.cell bz).trans ba
      have Lbb := fun x : Later w8.heap.size w8 => (x.cell bz).trans bb
      have Lbc := fun x : Later w8.heap.size w8 => (x.cell bz).trans bc
      have Lbg := fun x : Later w8.heap.size w8 => (x.cell bz).trans bg
      have Lca := fun x : Later w8.heap.size w8 => (x.cell cz).trans ca
      have Lcb := fun x : Later w8.heap.size w8 => (x.cell cz).trans cb
      have Lcc := fun x : Later w8.heap.size w8 => (x.cell cz).trans cc
      have Lcg := fun x : Later w8.heap.size w8 => (x.cell cz).trans cg
      have Lqa := fun x : Later w8.heap.size w8 => (x.cell qz).trans qa
      have Lqb := fun x : Later w8.heap.size w8 => (x.cell qz).trans qb
      have Lqc := fun x : Later w8.heap.size w8 => (x.cell qz).trans qc
      refine region_later w8.heap.size (by kernel_rfl) (by kernel_rfl) ?_
      repeat (go_big_quiet_step (first | (go_at_call 27; exact later_of (Nat.le_refl _) (CN.out _))))
      refine wpQuiet_nil ?_
      intro x
      have ee := x.below
      generalize x.at = w9 at ee ⊢
      clear x Lba Lbb Lbc Lbg Lca Lcb Lcc Lcg Lqa Lqb Lqc
      have Hp9 := Lib.hid (Hp8.out.keep ee)
      have Hq9 := Lib.hid (Hq8.out.keep ee)
      have Hx9 := Lib.hid (Hx8.out.kept ee)
      have Hy9 := Lib.hid (Hy8.out.kept ee)
      have Hb9 := Lib.hid (Hb8.out.keep ee)
      have Hc9 := Lib.hid (Hc8.out.keep ee)
      have HR9 := Lib.hid (HR8.out.keep ee)
      have b9 := b8.trans (ee.mono b8.size)
      have z9 := b9.size
      have y9 := ee.size
      clear ee HR8 Hp8 Hq8 Hx8 Hy8 Hb8 Hc8 ba bb bc bg bz ca cb cc cg cz qa qb qc qz
      obtain ⟨ba, bb, bc, bg, -, -, -, -, bz⟩ := id Hb9.out
      go_wp2_with fail
      refine (CE.out _).mono ?_
      rintro e w10 ⟨rfl, hw⟩
      have ee := hw
      have Hp10 := Lib.hid (Hp9.out.keep ee)
      have Hq10 := Lib.hid (Hq9.out.keep ee)
      have Hx10 := Lib.hid (Hx9.out.kept ee)
      have Hy10 := Lib.hid (Hy9.out.kept ee)
      have Hb10 := Lib.hid (Hb9.out.keep ee)
      have Hc10 := Lib.hid (Hc9.out.keep ee)
      have HR10 := Lib.hid (HR9.out.keep ee)
      have b10 := b9.trans (ee.mono b9.size)
      have z10 := b10.size
      have y10 := ee.size
      clear hw ee HR9 Hp9 Hq9 Hx9 Hy9 Hb9 Hc9 ba bb bc bg bz
      go_wp2_with fail
      refine (CL3.out _ (HR10.out.keep (by go_grown))).mono ?_
      rintro e w11 ⟨rfl, hw⟩
      have ee : Below w10.heap.size w10 w11 := below_of (by go_grown) hw
      have Hs11 : Hid (ABox w11 (w10.heap.size) F1) := Lib.hid (ABox.keep ⟨by go_simp <;> rfl, by go_simp <;> rfl, by go_simp <;> rfl, by go_size⟩ hw)
      have Ht11 : Hid (ABox w11 (w10.heap.size + 1) F2) := Lib.hid (ABox.keep ⟨by go_simp <;> rfl, by go_simp <;> rfl, by go_simp <;> rfl, by go_size⟩ hw)
      have Hp11 := Lib.hid (Hp10.out.keep ee)
      have Hq11 := Lib.hid (Hq10.out.keep ee)
      have Hx11 := Lib.hid (Hx10.out.kept ee)
      have Hy11 := Lib.hid (Hy10.out.kept ee)
      have Hb11 := Lib.hid (Hb10.out.keep ee)
      have Hc11 := Lib.hid (Hc10.out.keep ee)
      have HR11 := Lib.hid (HR10.out.keep ee)
      have b11 := b10.trans (ee.mono b10.size)
      have z11 := b11.size
      have y11 := ee.size
      clear hw ee HR10 Hp10 Hq10 Hx10 Hy10 Hb10 Hc10
      obtain ⟨ta, tb, tc, tz⟩ := id Ht11.out
      have tn0 : ¬ w10.heap.size + 1 = w11.heap.size := by omega
      go_wp2_with fail
      refine (CL4.out _ (HR11.out.keep (by go_grown))).mono ?_
      rintro e w12 ⟨rfl, hw⟩
      have ee : Below w11.heap.size w11 w12 := below_of (by go_grown) hw
      have Hm12 : Hid (QBox w12 (w11.heap.size) X) := Lib.hid (QBox.kept (by refine ⟨?_, ?_, ?_, ?_, ?_, ?_⟩ <;> first | (go_simp; done) | (go_simp <;> rfl) | go_size) hw)
      have Hp12 := Lib.hid (Hp11.out.keep ee)
      have Hq12 := Lib.hid (Hq11.out.keep ee)
      have Hx12 := Lib.hid (Hx11.out.kept ee)
      have Hy12 := Lib.hid (Hy11.out.kept ee)
      have Hb12 := Lib.hid (Hb11.out.keep ee)
      have Hc12 := Lib.hid (Hc11.out.keep ee)
      have Hs12 := Lib.hid (Hs11.out.keep ee)
      have Ht12 := Lib.hid (Ht11.out.keep ee)
      have HR12 := Lib.hid (HR11.out.keep ee)
      have b12 := b11.trans (ee.mono b11.size)
      have z12 := b12.size
      have y12 := ee.size
      clear hw ee HR11 Hp11 Hq11 Hx11 Hy11 Hb11 Hc11 Hs11 Ht11 ta tb tc tz tn0
      obtain ⟨ba, bb, bc, bg, -, -, -, -, bz⟩ := id Hb12.out
      have bn0 : ¬ w6.heap.size = w12.heap.size := by omega
      obtain ⟨ca, cb, cc, cg, -, -, -, -, cz⟩ := id Hc12.out
      have cn0 : ¬ w7.heap.size = w12.heap.size := by omega
      obtain ⟨x0, x1, x2, x3, x4, xz⟩ := id Hx12.out
      have xn0 : ¬ w4.heap.size = w12.heap.size := by omega
      obtain ⟨y0, y1, y2, y3, y4, yz⟩ := id Hy12.out
      have yn0 : ¬ w5.heap.size = w12.heap.size := by omega
      obtain ⟨m0, m1, m2, m3, m4, mz⟩ := id Hm12.out
      have mn0 : ¬ w11.heap.size = w12.heap.size := by omega
      go_wp2
      go_ret
      refine ⟨rfl, ?_⟩
      go_grown
    · rw [decide_eq_false hPQ] at cn
      rw [c2 hPQ] at cp
      have tq := pfB_no hPQ
      obtain ⟨Y, hY⟩ : ∃ Y, O2.getD nilPr = Y := ⟨_, rfl⟩
      obtain ⟨is', hi⟩ : ∃ is', O2.isSome = is' := ⟨_, rfl⟩
      rw [hY, hi] at cl2
      clear lb c2 hX hk hY hi hPQ
      have CB1 := Lib.hid cb1
      have CB2 := Lib.hid cb2
      have CL1 := Lib.hid cl1
      have CL2 := Lib.hid cl2
      have CL3 := Lib.hid cl3
      have CL4 := Lib.hid cl4
      have CN := Lib.hid cn
      have CE := Lib.hid ce
      have CP := Lib.hid cp
      clear cb1 cb2 cl1 cl2 cl3 cl4 cn ce cp
      obtain ⟨pa, pb, pc, pz⟩ := id Hp3.out
      go_wp2_with fail
      refine (CL1.out _ HR3.out).mono ?_
      rintro e w4 ⟨rfl, hw⟩
      have ee := hw
      have Hp4 := Lib.hid (Hp3.out.keep ee)
      have Hq4 := Lib.hid (Hq3.out.keep ee)
      have HR4 := Lib.hid (HR3.out.keep ee)
      have b4 := b3.trans (ee.mono b3.size)
      have z4 := b4.size
      have y4 := ee.size
      clear hw ee HR3 Hp3 Hq3 pa pb pc pz
      obtain ⟨qa, qb, qc, qz⟩ := id Hq4.out
      have qn0 : ¬ w.heap.size + 1 = w4.heap.size := by omega
      go_wp2_with fail
      refine (CL2.out _ (HR4.out.keep (by go_grown))).mono ?_
      rintro e w5 ⟨rfl, hw⟩
      have ee : Below w4.heap.size w4 w5 := below_of (by go_grown) hw
      have Hx5 : Hid (QBox w5 (w4.heap.size) X) := Lib.hid (QBox.kept (by refine ⟨?_, ?_, ?_, ?_, ?_, ?_⟩ <;> first | (go_simp; done) | (go_simp <;> rfl) | go_size) hw)
      have Hp5 := Lib.hid (Hp4.out.keep ee)
      have Hq5 := Lib.hid (Hq4.out.keep ee)
      have HR5 := Lib.hid (HR4.out.keep ee)
      have b5 := b4.trans (ee.mono b4.size)
      have z5 := b5.size
      have y5 := ee.size
      clear hw ee HR4 Hp4 Hq4 qa qb qc qz qn0
      obtain ⟨pa, pb, pc, pz⟩ := id Hp5.out
      have pn0 : ¬ w.heap.size = w5.heap.size := by omega
      go_wp2_with fail
      refine (CB1.out _ (HR5.out.keep (by go_grown))).mono ?_
      rintro e w6 ⟨rfl, hw⟩
      have ee : Below w5.heap.size w5 w6 := below_of (by go_grown) hw
      have Hy6 : Hid (QBox w6 (w5.heap.size) Y) := Lib.hid (QBox.kept (by refine ⟨?_, ?_, ?_, ?_, ?_, ?_⟩ <;> first | (go_simp; done) | (go_simp <;> rfl) | go_size) hw)
      have Hp6 := Lib.hid (Hp5.out.keep ee)
      have Hq6 := Lib.hid (Hq5.out.keep ee)
      have Hx6 := Lib.hid (Hx5.out.kept ee)
      have HR6 := Lib.hid (HR5.out.keep ee)
      have b6 := b5.trans (ee.mono b5.size)
      have z6 := b6.size
      have y6 := ee.size
      clear hw ee HR5 Hp5 Hq5 Hx5 pa pb pc pz pn0
      obtain ⟨qa, qb, qc, qz⟩ := id Hq6.out
      have qn0 : ¬ w.heap.size + 1 = w6.heap.size := by omega
      go_wp2_with fail
      refine (CB2.out _ (HR6.out.keep (by go_grown))).mono ?_
      rintro e w7 ⟨rfl, hw⟩
      have ee : Below w6.heap.size w6 w7 := below_of (by go_grown) hw
      have Hb7 : Hid (PBox w7 (w6.heap.size) P) := Lib.hid (PBox.keep (by exact ⟨by go_simp <;> rfl, by go_simp <;> rfl, by go_simp <;> rfl, by go_simp <;> rfl, by go_simp <;> rfl, by go_simp <;> rfl, by go_simp <;> rfl, by go_simp <;> rfl, by go_size⟩) hw)
      have Hp7 := Lib.hid (Hp6.out.keep ee)
      have Hq7 := Lib.hid (Hq6.out.keep ee)
      have Hx7 := Lib.hid (Hx6.out.kept ee)
      have Hy7 := Lib.hid (Hy6.out.kept ee)
      have HR7 := Lib.hid (HR6.out.keep ee)
      have b7 := b6.trans (ee.mono b6.size)
      have z7 := b7.size
      have y7 := ee.size
      clear hw ee HR6 Hp6 Hq6 Hx6 Hy6 qa qb qc qz qn0
      go_wp2_with fail
      generalize hV : World.alloc _ _ = w8
      have ee : Below w7.heap.size w7 w8 := by subst hV; go_grown
      have Hc8 : Hid (PBox w8 (w7.heap.size) Q) := Lib.hid (by subst hV; exact ⟨by go_simp <;> rfl, by go_simp <;> rfl, by go_simp <;> rfl, by go_simp <;> rfl, by go_simp <;> rfl, by go_simp <;> rfl, by go_simp <;> rfl, by go_simp <;> rfl, by go_size⟩)
      have Hp8 := Lib.hid (Hp7.out.keep ee)
      have Hq8 := Lib.hid (Hq7.out.keep ee)
      have Hx8 := Lib.hid (Hx7.out.kept ee)
      have Hy8 := Lib.hid (Hy7.out.kept ee)
      have Hb8 := Lib.hid (Hb7.out.keep ee)
      have HR8 := Lib.hid (HR7.out.keep ee)
      have b8 := b7.trans (ee.mono b7.size)
      have z8 := b8.size
      have y8 := ee.size
      clear hV ee HR7 Hp7 Hq7 Hx7 Hy7 Hb7
      obtain ⟨ba, bb, bc, bg, -, -, -, -, bz⟩ := id Hb8.out
      obtain ⟨ca, cb, cc, cg, -, -, -, -, cz⟩ := id Hc8.out
      obtain ⟨qa, qb, qc, qz⟩ := id Hq8.out
      have Lba := fun x : Later w8.heap.size w8 => (x.cell bz).trans ba
      have Lbb := fun x : Later w8.heap.size w8 => (x.cell bz).trans bb
      have Lbc := fun x : Later w8.heap.size w8 => (x.cell bz).trans bc
      have Lbg := fun x : Later w8.heap.size w8 => (x.cell bz).trans bg
      have Lca := fun x : Later w8.heap.size w8 => (x.cell cz).trans ca
      have Lcb := fun x : Later w8.heap.size w8 => (x.cell cz).trans cb
      have Lcc := fun x : Later w8.heap.size w8 => (x.cell cz).trans cc
      have Lcg := fun x : Later w8.heap.size w8 => (x.cell cz).trans cg
      have Lqa := fun x : Later w8.heap.size w8 => (x.cell qz).trans qa
      have Lqb := fun x : Later w8.heap.size w8 => (x.cell qz).trans qb
      have Lqc := fun x : Later w8.heap.size w8 => (x.cell qz).trans qc
      refine region_later w8.heap.size (by kernel_rfl) (by kernel_rfl) ?_
      repeat (go_big_quiet_step (first | (go_at_call 27; exact later_of (Nat.le_refl _) (CN.out _)) | (go_at_call 28; exact later_of (Nat.le_refl _) (CP.out _))))
      refine wpQuiet_nil ?_
      intro x
      have ee := x.below
      generalize x.at = w9 at ee ⊢
      clear x Lba Lbb Lbc Lbg Lca Lcb Lcc Lcg Lqa Lqb Lqc
      have Hp9 := Lib.hid (Hp8.out.keep ee)
      have Hq9 := Lib.hid (Hq8.out.keep ee)
      have Hx9 := Lib.hid (Hx8.out.kept ee)
      have Hy9 := Lib.hid (Hy8.out.kept ee)
      have Hb9 := Lib.hid (Hb8.out.keep ee)
      have Hc9 := Lib.hid (Hc8.out.keep ee)
      have HR9 := Lib.hid (HR8.out.keep ee)
      have b9 := b8.trans (ee.mono b8.size)
      have z9 := b9.size
      have y9 := ee.size
      clear ee HR8 Hp8 Hq8 Hx8 Hy8 Hb8 Hc8 ba bb bc bg bz ca cb cc cg cz qa qb qc qz
      obtain ⟨ba, bb, bc, bg, -, -, -, -, bz⟩ := id Hb9.out
      go_wp2_with fail
      refine (CE.out _).mono ?_
      rintro e w10 ⟨rfl, hw⟩
      have ee := hw
      have Hp10 := Lib.hid (Hp9.out.keep ee)
      have Hq10 := Lib.hid (Hq9.out.keep ee)
      have Hx10 := Lib.hid (Hx9.out.kept ee)
      have Hy10 := Lib.hid (Hy9.out.kept ee)
      have Hb10 := Lib.hid (Hb9.out.keep ee)
      have Hc10 := Lib.hid (Hc9.out.keep ee)
      have HR10 := Lib.hid (HR9.out.keep ee)
      have b10 := b9.trans (ee.mono b9.size)
      have z10 := b10.size
      have y10 := ee.size
      clear hw ee HR9 Hp9 Hq9 Hx9 Hy9 Hb9 Hc9 ba bb bc bg bz
      go_wp2_with fail
      refine (CL3.out _ (HR10.out.keep (by go_grown))).mono ?_
      rintro e w11 ⟨rfl, hw⟩
      have ee : Below w10.heap.size w10 w11 := below_of (by go_grown) hw
      have Hs11 : Hid (ABox w11 (w10.heap.size) F1) := Lib.hid (ABox.keep ⟨by go_simp <;> rfl, by go_simp <;> rfl, by go_simp <;> rfl, by go_size⟩ hw)
      have Ht11 : Hid (ABox w11 (w10.heap.size + 1) F2) := Lib.hid (ABox.keep ⟨by go_simp <;> rfl, by go_simp <;> rfl, by go_simp <;> rfl, by go_size⟩ hw)
      have Hp11 := Lib.hid (Hp10.out.keep ee)
      have Hq11 := Lib.hid (Hq10.out.keep ee)
      have Hx11 := Lib.hid (Hx10.out.kept ee)
      have Hy11 := Lib.hid (Hy10.out.kept ee)
      have Hb11 := Lib.hid (Hb10.out.keep ee)
      have Hc11 := Lib.hid (Hc10.out.keep ee)
      have HR11 := Lib.hid (HR10.out.keep ee)
      have b11 := b10.trans (ee.mono b10.size)
      have z11 := b11.size
      have y11 := ee.size
      clear hw ee HR10 Hp10 Hq10 Hx10 Hy10 Hb10 Hc10
      obtain ⟨ta, tb, tc, tz⟩ := id Ht11.out
      have tn0 : ¬ w10.heap.size + 1 = w11.heap.size := by omega
      go_wp2_with fail
      refine (CL4.out _ (HR11.out.keep (by go_grown))).mono ?_
      rintro e w12 ⟨rfl, hw⟩
      have ee : Below w11.heap.size w11 w12 := below_of (by go_grown) hw
      have Hm12 : Hid (QBox w12 (w11.heap.size) X) := Lib.hid (QBox.kept (by refine ⟨?_, ?_, ?_, ?_, ?_, ?_⟩ <;> first | (go_simp; done) | (go_simp <;> rfl) | go_size) hw)
      have Hp12 := Lib.hid (Hp11.out.keep ee)
      have Hq12 := Lib.hid (Hq11.out.keep ee)
      have Hx12 := Lib.hid (Hx11.out.kept ee)
      have Hy12 := Lib.hid (Hy11.out.kept ee)
      have Hb12 := Lib.hid (Hb11.out.keep ee)
      have Hc12 := Lib.hid (Hc11.out.keep ee)
      have Hs12 := Lib.hid (Hs11.out.keep ee)
      have Ht12 := Lib.hid (Ht11.out.keep ee)
      have HR12 := Lib.hid (HR11.out.keep ee)
      have b12 := b11.trans (ee.mono b11.size)
      have z12 := b12.size
      have y12 := ee.size
      clear hw ee HR11 Hp11 Hq11 Hx11 Hy11 Hb11 Hc11 Hs11 Ht11 ta tb tc tz tn0
      obtain ⟨ba, bb, bc, bg, -, -, -, -, bz⟩ := id Hb12.out
      have bn0 : ¬ w6.heap.size = w12.heap.size := by omega
      obtain ⟨ca, cb, cc, cg, -, -, -, -, cz⟩ := id Hc12.out
      have cn0 : ¬ w7.heap.size = w12.heap.size := by omega
      obtain ⟨x0, x1, x2, x3, x4, xz⟩ := id Hx12.out
      have xn0 : ¬ w4.heap.size = w12.heap.size := by omega
      obtain ⟨y0, y1, y2, y3, y4, yz⟩ := id Hy12.out
      have yn0 : ¬ w5.heap.size = w12.heap.size := by omega
      obtain ⟨m0, m1, m2, m3, m4, mz⟩ := id Hm12.out
      have mn0 : ¬ w11.heap.size = w12.heap.size := by omega
      go_wp2
      go_ret
      refine ⟨rfl, ?_⟩
      go_grown

end Go.Proofs.Ytnmjofccedjkkaa

namespace Go.Proofs.Ytnmjofccedjkkaa
open Go.ChangeShapes Go.WideShapes Go.ChangeAt Go.RowKit

set_option maxRecDepth 100000 in
theorem leafgenAlike_lifted (os : Os) (started : os.Started) (H : Type) (enc : TypeId × Value → H) :
    ReturnsInHanded {} Try.checked os 5 .any (Rows.leafgenAlikeSpec.pre6 enc Try.prog Try.f5 Rows.leafgenAlikeRow.domain false) (Rows.leafgenAlikeSpec.post enc Try.prog Try.f5 false true false false) := by
  refine returnsInHanded_of_change (C := Try.checked) own started (by kernel_rfl) Try.func5
    (ChangeSpec.witness6 (enc := enc) (C := Try.checked) false ⟨#[], #[.slice none 0 0, .agg #[.int .u64 0, .int .u64 0, .bool false], .agg #[.int .u64 0, .int .u64 0, .bool false]], []⟩ 8 (by kernel_rfl) (by kernel_rfl) (by kernel_rfl) (by kernel_rfl)) ?_
  intro W base args ds gs before hval0 hW hcnd _
  have hval : ∀ (j : Nat) t v, Try.f5.params[j]? = some t → args[j]? = some v → Value.okWide Try.prog W .any base t v := hval0
  have hW' := hW
  obtain ⟨p, q, hA0, hV, rfl, hfz, hnd⟩ := hW
  have hA : DataW.TrodAll enc Try.prog W 0 (fun _ => true) true Try.f5.params.toList args.toList ds p := hA0
  rw [Try.params5] at hA hval
  obtain ⟨v0, vs0, d0, ds0, p0, q0, hargs, rfl, rfl, h0, r0⟩ := trodAll_cons hA
  obtain ⟨v1, vs1, d1, ds1, p1, q1, rfl, rfl, rfl, h1, r1⟩ := trodAll_cons r0
  obtain ⟨v2, vs2, d2, ds2, p2, q2, rfl, rfl, rfl, h2, r2⟩ := trodAll_cons r1
  obtain ⟨rfl, rfl, rfl⟩ := trodAll_nil r2
  obtain rfl : args = #[v0, v1, v2] := by cases args; simp_all
  obtain ⟨rfl, rfl⟩ := trodVars_none hV
  have lt0 : ∀ x ∈ p0, x.block < W.heap.size := by obtain ⟨m, hm⟩ := h0; exact DataW.trod_lt m _ _ _ hm
  obtain ⟨A0, cap0, l0, rfl, w0⟩ := open_prs (hval 0 22 v0 rfl rfl) h0 (fun _ => rfl)
  have lt1 : ∀ x ∈ p1, x.block < W.heap.size := by obtain ⟨m, hm⟩ := h1; exact DataW.trod_lt m _ _ _ hm
  obtain ⟨a1, rfl⟩ := open_ad (hval 1 25 v1 rfl rfl) h1
  have lt2 : ∀ x ∈ p2, x.block < W.heap.size := by obtain ⟨m, hm⟩ := h2; exact DataW.trod_lt m _ _ _ hm
  obtain ⟨a2, rfl⟩ := open_ad (hval 2 25 v2 rfl rfl) h2
  clear hA0 hval0
  refine (leafalike_law A0 cap0 l0 a1 a2 W w0).mono fun e W' ⟨he, bel⟩ => ?_
  subst he
  exact ⟨_, rfl, _, _, _, [], _, [], hW', trodAll_mk1 (shut_bool Try.underlying4 _), (trodAll_cons_mk (Below.trod laidOut (by kernel_rfl) (of_decide_eq_true (by kernel_rfl)) h0 bel lt0) (trodAll_cons_mk (Below.trod laidOut (by kernel_rfl) (of_decide_eq_true (by kernel_rfl)) h1 bel lt1) (trodAll_cons_mk (Below.trod laidOut (by kernel_rfl) (of_decide_eq_true (by kernel_rfl)) h2 bel lt2) trodAll_mk0))), rfl, bel.frame _, fun h => by cases h⟩

theorem leafgenAlike_holds : Rows.LeafgenAlikeSaid :=
  OpenClaim.holds_of_wide 5 Try.f5 rfl rfl rfl rfl rfl rfl rfl ⟨rfl, rfl, rfl, rfl, rfl⟩ rfl rfl rfl rfl rfl (by kernel_rfl) Try.func5 (by kernel_rfl)
    (of_decide_eq_true (by kernel_rfl)) (by unfold Func.isWrapper; first | (rw [if_pos (by decide +kernel)]; kernel_rfl) | (rw [if_neg (by decide +kernel)]; exact ⟨rfl, rfl⟩))
    (fun os started H enc _ => leafgenAlike_lifted os started H enc)

end Go.Proofs.Ytnmjofccedjkkaa
