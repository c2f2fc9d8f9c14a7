/-
  CoverSame: for every input the call returns true, and each argument reads afterwards as it read before. No condition.
-/
import Derived.Test.YthdnpilkkegniaaC2
import Derived.Test.YthdnpilkkegniaaH1
namespace Go.Proofs.Ythdnpilkkegniaa
open Go.RowKit Go.Maps
set_option maxRecDepth 100000


set_option maxHeartbeats 8000000 in
theorem covsame_law (A : Option Addr) (cap : Nat) (ls : List Pr) (p : Pf) (a : Ad) (w : World) (hr : RdQ w A ls) :
    Calls Try.prog 8 #[.slice A ls.length cap, .agg #[.int .u64 (u p.a.hi), .int .u64 (u p.a.lo), .bool p.a.v6, .int .i64 p.n], .agg #[.int .u64 (u a.hi), .int .u64 (u a.lo), .bool a.v6]] w fun e w' => e = .returned (.bool true) ∧ Below w.heap.size w w' := by
  have HRD := Lib.hid hr
  clear hr
  by_cases hlen : 12 < ls.length
  · have t0 : decide ((12 : Int) < (ls.length : Int)) = true := by simp; omega
    go_enter Try.func8, Try.ntmps8
    go_wp2_with fail
    refine (awake8_any _).mono ?_
    rintro e w1 ⟨rfl, hw1⟩
    have b1 : Below w.heap.size w w1 := below_of (by go_grown) hw1
    go_wp2
    go_ret
    exact ⟨rfl, b1⟩
  · have t0 : decide ((12 : Int) < (ls.length : Int)) = false := by simp; omega
    go_enter Try.func8, Try.ntmps8
    go_wp2_with fail
    refine (awake8_any _).mono ?_
    rintro e w1 ⟨rfl, hw1⟩
    have b1 : Below w.heap.size w w1 := below_of (by go_grown) hw1
    have Hp1 : Hid (PBox w1 (w.heap.size) p) := Lib.hid (PBox.keep (by exact ⟨by go_simp <;> rfl, by go_simp <;> rfl, by go_simp <;> rfl, by go_simp <;> rfl, by go_simp <;> rfl, by go_simp <;> rfl, by go_simp <;> rfl, by go_simp <;> rfl, by go_size⟩) hw1)
    have Ha1 : Hid (ABox w1 (w.heap.size + 1) a) := Lib.hid (ABox.keep ⟨by go_simp <;> rfl, by go_simp <;> rfl, by go_simp <;> rfl, by go_size⟩ hw1)
    have v1 := Ha1.out.2.2.2
    clear hw1
    go_wp2_with fail
    refine (filled8_any A cap ls _ (HRD.out.keep b1 (Nat.le_refl _)) (by omega)).mono ?_
    rintro e w3 ⟨r, S, rfl, hR3, hm3, hS3, hb3⟩
    have Hp3 := Lib.hid (Hp1.out.keep hb3)
    have Ha3 := Lib.hid (Ha1.out.keep hb3)
    have b3 := b1.trans (hb3.mono b1.size)
    have z1 := b1.size
    have z3 := b3.size
    have hs3 := hR3.srt
    have hL3 := fill_len ls ls.length (Nat.le_refl _)
    generalize (fillK ls ls.length).1 = L at hR3 hs3 hL3
    generalize (fillK ls ls.length).2 = M at hR3 hm3
    have HR3 := Lib.hid hR3
    have HSR := Lib.hid hs3
    clear hR3 hS3 hs3 hb3 HRD b1 t0 Hp1 Ha1
    have hN := all_len (n := 12) (by omega) p (L := L)
    have ca := fun W (H : RibS W r S 200 200 L M) => pieces_any H p 4096
    rw [show clampM 4096 = 4096 from by decide, List.take_of_length_le (by rw [pieces_len]; omega)] at ca
    have hpl := pieces_len L p
    obtain ⟨X, yp, e1, e2, e3, e4, e5⟩ := same_facts L p a
    have hle := sqz_le (piecesL L p)
    have hag := sqz_again (piecesL L p)
    generalize decide ((allB L p).length ≤ 4096) = bb at ca
    generalize piecesL L p = m at ca e1 e2 e3 e4 hle hag hpl
    have hm5 : m.length ≤ 100000 := by omega
    have hs5 : (sqz m).length ≤ 100000 := by omega
    have cq := fun A c W (h : pcK.Rd W A m) (hA : A = none → m = [] ∧ c = 0) => sqz_walk A c m W h hA hm5
    have cq2 := fun A c W (h : pcK.Rd W A (sqz m)) (hA : A = none → (sqz m) = [] ∧ c = 0) => sqz_walk A c (sqz m) W h hA hs5
    rw [hag] at cq2
    have cx := fun A c W (h : pcK.Rd W A m) => cat_any A c m a W h (by omega)
    have cy := fun A c W (h : pcK.Rd W A (sqz m)) => cat_any A c (sqz m) a W h (by omega)
    have ct := fun A c W (h : pcK.Rd W A (sqz m)) => theirs_any A c (sqz m) W h hs5
    have ce := fun A B c d W (h : pcK.Rd W A (sqz m)) (k : pcK.Rd W B (sqz m)) => same8_any (sqz m) A B c d W h k (by omega)
    unfold AtPost at cx cy
    rw [e1, e3] at cx
    rw [e2, e4] at cy
    generalize sqz m = s at *
    have cl := fun W (H : RibS W r S 200 200 L M) => rib_longest H a
    unfold OptPost at cl
    have cc := fun W => pcon_any p a W
    have t8 : s.length ≤ m.length := hle
    have t9 : decide ((s.length : Int) ≤ (m.length : Int)) = true := decide_eq_true (by omega)
    have HHL := Lib.hid hle
    have HHM := Lib.hid hm5
    have HHS := Lib.hid hs5
    simp only at cy
    clear hle hag hN hpl e1 e2 e3 e4 hm5 hs5 hm3 hL3 HSR
    cases hk : pcon p a
    · rw [hk] at cx cy
      have cc2 := fun W => cc W
      rw [hk] at cc2
      obtain ⟨z, hz⟩ : ∃ z, (longL L a).getD nilPr = z := ⟨_, rfl⟩
      obtain ⟨iz, hiz⟩ : ∃ z, (longL L a).isSome = z := ⟨_, rfl⟩
      rw [hz, hiz] at cl
      clear hz hiz
      clear hk e5 cc
      have CA := Lib.hid ca
      have CQ := Lib.hid cq
      have CQ2 := Lib.hid cq2
      have CX := Lib.hid cx
      have CY := Lib.hid cy
      have CT := Lib.hid ct
      have CE := Lib.hid ce
      have CL := Lib.hid cl
      have CC2 := Lib.hid cc2
      clear ca cq cq2 cx cy ct ce cl cc2
      obtain ⟨pa, pb, pc, pg, -, -, -, -, pz⟩ := id Hp3.out
      go_wp2_with fail
      refine (CA.out _ HR3.out).mono ?_
      rintro e w4 hq
      obtain ⟨Am, cm, rfl, lem, nom, rdm, -, hw⟩ := hq.rd
      have Hm4 := Lib.hid rdm
      have HNm := Lib.hid nom
      clear hq rdm nom
      have ee := hw
      have Hp4 := Lib.hid (Hp3.out.keep ee)
      have Ha4 := Lib.hid (Ha3.out.keep ee)
      have HR4 := Lib.hid (HR3.out.keep ee)
      have b4 := b3.trans (ee.mono b3.size)
      have z4 := b4.size
      have y4 := ee.size
      clear hw ee HR3 Hp3 Ha3 pa pb pc pg pz
      go_wp2_with fail
      refine (CQ.out Am cm _ Hm4.out HNm.out).mono ?_
      rintro e w5 hq
      obtain ⟨As, cs, rfl, les, nos, rds, hw⟩ := rowpc_rd hq
      have Hs5 := Lib.hid rds
      have HNs := Lib.hid nos
      clear hq rds nos
      have ee := hw
      have Hp5 := Lib.hid (Hp4.out.keep ee)
      have Ha5 := Lib.hid (Ha4.out.keep ee)
      have Hm5 := Lib.hid (Hm4.out.kept ee)
      have HR5 := Lib.hid (HR4.out.keep ee)
      have b5 := b4.trans (ee.mono b4.size)
      have z5 := b5.size
      have y5 := ee.size
      clear hw ee HR4 Hp4 Ha4 Hm4
      obtain ⟨aa, ab, ac, az⟩ := id Ha5.out
      go_wp2_with fail
      refine (CX.out Am cm _ Hm5.out).mono ?_
      rintro e w6 ⟨rfl, hw⟩
      have ee := hw
      have Hp6 := Lib.hid (Hp5.out.keep ee)
      have Ha6 := Lib.hid (Ha5.out.keep ee)
      have Hm6 := Lib.hid (Hm5.out.kept ee)
      have Hs6 := Lib.hid (Hs5.out.kept ee)
      have HR6 := Lib.hid (HR5.out.keep ee)
      have b6 := b5.trans (ee.mono b5.size)
      have z6 := b6.size
      have y6 := ee.size
      clear hw ee HR5 Hp5 Ha5 Hm5 Hs5 aa ab ac az
      obtain ⟨aa, ab, ac, az⟩ := id Ha6.out
      have an0 : ¬ w.heap.size + 1 = w6.heap.size := by omega
      go_wp2_with fail
      refine (CY.out As cs _ (Hs6.out.kept (by go_grown))).mono ?_
      rintro e w7 ⟨rfl, hw⟩
      have ee : Below w6.heap.size w6 w7 := below_of (by go_grown) hw
      have Hx7 : Hid (SBox w7 (w6.heap.size) X) := Lib.hid (SBox.keep ⟨by go_simp <;> rfl, by go_simp <;> rfl, by go_simp <;> rfl, by go_simp <;> rfl, by go_simp <;> rfl, by go_simp <;> rfl, by go_size⟩ hw)
      have Hp7 := Lib.hid (Hp6.out.keep ee)
      have Ha7 := Lib.hid (Ha6.out.keep ee)
      have Hm7 := Lib.hid (Hm6.out.kept ee)
      have Hs7 := Lib.hid (Hs6.out.kept ee)
      have HR7 := Lib.hid (HR6.out.keep ee)
      have b7 := b6.trans (ee.mono b6.size)
      have z7 := b7.size
      have y7 := ee.size
      clear hw ee HR6 Hp6 Ha6 Hm6 Hs6 aa ab ac az an0
      obtain ⟨aa, ab, ac, az⟩ := id Ha7.out
      have an0 : ¬ w.heap.size + 1 = w7.heap.size := by omega
      go_wp2_with fail
      refine (CL.out _ (HR7.out.keep (by go_grown))).mono ?_
      rintro e w8 ⟨rfl, hw⟩
      have ee : Below w7.heap.size w7 w8 := below_of (by go_grown) hw
      have Hy8 : Hid (SBox w8 (w7.heap.size) ⟨yp, X.h, X.r⟩) := Lib.hid (SBox.keep ⟨by go_simp <;> rfl, by go_simp <;> rfl, by go_simp <;> rfl, by go_simp <;> rfl, by go_simp <;> rfl, by go_simp <;> rfl, by go_size⟩ hw)
      have Hp8 := Lib.hid (Hp7.out.keep ee)
      have Ha8 := Lib.hid (Ha7.out.keep ee)
      have Hm8 := Lib.hid (Hm7.out.kept ee)
      have Hs8 := Lib.hid (Hs7.out.kept ee)
      have Hx8 := Lib.hid (Hx7.out.keep ee)
      have HR8 := Lib.hid (HR7.out.keep ee)
      have b8 := b7.trans (ee.mono b7.size)
      have z8 := b8.size
      have y8 := ee.size
      clear hw ee HR7 Hp7 Ha7 Hm7 Hs7 Hx7 aa ab ac az an0
      obtain ⟨pa, pb, pc, pg, -, -, -, -, pz⟩ := id Hp8.out
      have pn0 : ¬ w.heap.size = w8.heap.size := by omega
      obtain ⟨aa, ab, ac, az⟩ := id Ha8.out
      have an0 : ¬ w.heap.size + 1 = w8.heap.size := by omega
      go_wp2_with fail
      refine (CC2.out _).mono ?_
      rintro e w9 ⟨rfl, hw⟩
      have ee : Below w8.heap.size w8 w9 := below_of (by go_grown) hw
      have Hz9 : Hid (QBox w9 (w8.heap.size) z) := Lib.hid (QBox.kept (by refine ⟨?_, ?_, ?_, ?_, ?_, ?_⟩ <;> first | (go_simp; done) | (go_simp <;> rfl) | go_size) hw)
      have Hp9 := Lib.hid (Hp8.out.keep ee)
      have Ha9 := Lib.hid (Ha8.out.keep ee)
      have Hm9 := Lib.hid (Hm8.out.kept ee)
      have Hs9 := Lib.hid (Hs8.out.kept ee)
      have Hx9 := Lib.hid (Hx8.out.keep ee)
      have Hy9 := Lib.hid (Hy8.out.keep ee)
      have HR9 := Lib.hid (HR8.out.keep ee)
      have b9 := b8.trans (ee.mono b8.size)
      have z9 := b9.size
      have y9 := ee.size
      clear hw ee HR8 Hp8 Ha8 Hm8 Hs8 Hx8 Hy8 pa pb pc pg pz pn0 aa ab ac az an0
      obtain ⟨x0, x1, x2, x3, x4, x5, xz⟩ := id Hx9.out
      obtain ⟨y0, y1, y2, y3, y4, y5, yz⟩ := id Hy9.out
      obtain ⟨z0, z1, z2, z3, z4, zz⟩ := id Hz9.out
      clear lem les
      go_wp2_with fail
      refine (CQ2.out As cs _ Hs9.out HNs.out).mono ?_
      rintro e w10 hq
      obtain ⟨Aq, cq, rfl, leq, noq, rdq, hw⟩ := rowpc_rd hq
      have Hq10 := Lib.hid rdq
      have HNq := Lib.hid noq
      clear hq rdq noq
      have ee := hw
      have Hp10 := Lib.hid (Hp9.out.keep ee)
      have Ha10 := Lib.hid (Ha9.out.keep ee)
      have Hm10 := Lib.hid (Hm9.out.kept ee)
      have Hs10 := Lib.hid (Hs9.out.kept ee)
      have Hx10 := Lib.hid (Hx9.out.keep ee)
      have Hy10 := Lib.hid (Hy9.out.keep ee)
      have Hz10 := Lib.hid (Hz9.out.kept ee)
      have HR10 := Lib.hid (HR9.out.keep ee)
      have b10 := b9.trans (ee.mono b9.size)
      have z10 := b10.size
      have y10 := ee.size
      clear hw ee HR9 Hp9 Ha9 Hm9 Hs9 Hx9 Hy9 Hz9 x0 x1 x2 x3 x4 x5 xz y0 y1 y2 y3 y4 y5 yz z0 z1 z2 z3 z4 zz
      go_wp2_with fail
      refine (CT.out Aq cq _ Hq10.out).mono ?_
      rintro e w11 hq
      obtain ⟨Ai, ci, rfl, lei, noi, rdi, hw⟩ := rowrc_rd hq
      have Hi11 := Lib.hid rdi
      have HNi := Lib.hid noi
      clear hq rdi noi
      have ee := hw
      have Hp11 := Lib.hid (Hp10.out.keep ee)
      have Ha11 := Lib.hid (Ha10.out.keep ee)
      have Hm11 := Lib.hid (Hm10.out.kept ee)
      have Hs11 := Lib.hid (Hs10.out.kept ee)
      have Hx11 := Lib.hid (Hx10.out.keep ee)
      have Hy11 := Lib.hid (Hy10.out.keep ee)
      have Hz11 := Lib.hid (Hz10.out.kept ee)
      have Hq11 := Lib.hid (Hq10.out.kept ee)
      have HR11 := Lib.hid (HR10.out.keep ee)
      have b11 := b10.trans (ee.mono b10.size)
      have z11 := b11.size
      have y11 := ee.size
      clear hw ee HR10 Hp10 Ha10 Hm10 Hs10 Hx10 Hy10 Hz10 Hq10
      go_wp2_with fail
      refine (CT.out As cs _ Hs11.out).mono ?_
      rintro e w12 hq
      obtain ⟨Aj, cj, rfl, lej, noj, rdj, hw⟩ := rowrc_rd hq
      have Hj12 := Lib.hid rdj
      have HNj := Lib.hid noj
      clear hq rdj noj
      have ee := hw
      have Hp12 := Lib.hid (Hp11.out.keep ee)
      have Ha12 := Lib.hid (Ha11.out.keep ee)
      have Hm12 := Lib.hid (Hm11.out.kept ee)
      have Hs12 := Lib.hid (Hs11.out.kept ee)
      have Hx12 := Lib.hid (Hx11.out.keep ee)
      have Hy12 := Lib.hid (Hy11.out.keep ee)
      have Hz12 := Lib.hid (Hz11.out.kept ee)
      have Hq12 := Lib.hid (Hq11.out.kept ee)
      have Hi12 := Lib.hid (Hi11.out.kept ee)
      have HR12 := Lib.hid (HR11.out.keep ee)
      have b12 := b11.trans (ee.mono b11.size)
      have z12 := b12.size
      have y12 := ee.size
      clear hw ee HR11 Hp11 Ha11 Hm11 Hs11 Hx11 Hy11 Hz11 Hq11 Hi11
      go_wp2_with fail
      refine (CE.out Ai Aj ci cj _ Hi12.out Hj12.out).mono ?_
      rintro e w13 ⟨rfl, hw⟩
      have ee := hw
      have Hp13 := Lib.hid (Hp12.out.keep ee)
      have Ha13 := Lib.hid (Ha12.out.keep ee)
      have Hm13 := Lib.hid (Hm12.out.kept ee)
      have Hs13 := Lib.hid (Hs12.out.kept ee)
      have Hx13 := Lib.hid (Hx12.out.keep ee)
      have Hy13 := Lib.hid (Hy12.out.keep ee)
      have Hz13 := Lib.hid (Hz12.out.kept ee)
      have Hq13 := Lib.hid (Hq12.out.kept ee)
      have Hi13 := Lib.hid (Hi12.out.kept ee)
      have Hj13 := Lib.hid (Hj12.out.kept ee)
      have HR13 := Lib.hid (HR12.out.keep ee)
      have b13 := b12.trans (ee.mono b12.size)
      have z13 := b13.size
      have y13 := ee.size
      clear hw ee HR12 Hp12 Ha12 Hm12 Hs12 Hx12 Hy12 Hz12 Hq12 Hi12 Hj12
      go_wp2
      go_ret
      exact ⟨rfl, b13⟩
    · rw [hk] at cx cy
      have cc2 := fun W => cc W
      rw [hk] at cc2
      obtain ⟨f1, f2⟩ := e5 hk
      rw [f2] at cl
      obtain ⟨⟨zp, zv⟩, hz⟩ : ∃ z, (longL L a).getD nilPr = z := ⟨_, rfl⟩
      rw [hz] at cl f1
      simp only at f1
      subst f1
      simp only at cl
      clear hz f2
      clear hk e5 cc
      have CA := Lib.hid ca
      have CQ := Lib.hid cq
      have CQ2 := Lib.hid cq2
      have CX := Lib.hid cx
      have CY := Lib.hid cy
      have CT := Lib.hid ct
      have CE := Lib.hid ce
      have CL := Lib.hid cl
      have CC2 := Lib.hid cc2
      clear ca cq cq2 cx cy ct ce cl cc2
      obtain ⟨pa, pb, pc, pg, -, -, -, -, pz⟩ := id Hp3.out
      go_wp2_with fail
      refine (CA.out _ HR3.out).mono ?_
      rintro e w4 hq
      obtain ⟨Am, cm, rfl, lem, nom, rdm, -, hw⟩ := hq.rd
      have Hm4 := Lib.hid rdm
      have HNm := Lib.hid nom
      clear hq rdm nom
      have ee := hw
      have Hp4 := Lib.hid (Hp3.out.keep ee)
      have Ha4 := Lib.hid (Ha3.out.keep ee)
      have HR4 := Lib.hid (HR3.out.keep ee)
      have b4 := b3.trans (ee.mono b3.size)
      have z4 := b4.size
      have y4 := ee.size
      clear hw ee HR3 Hp3 Ha3 pa pb pc pg pz
      go_wp2_with fail
      refine (CQ.out Am cm _ Hm4.out HNm.out).mono ?_
      rintro e w5 hq
      obtain ⟨As, cs, rfl, les, nos, rds, hw⟩ := rowpc_rd hq
      have Hs5 := Lib.hid rds
      have HNs := Lib.hid nos
      clear hq rds nos
      have ee := hw
      have Hp5 := Lib.hid (Hp4.out.keep ee)
      have Ha5 := Lib.hid (Ha4.out.keep ee)
      have Hm5 := Lib.hid (Hm4.out.kept ee)
      have HR5 := Lib.hid (HR4.out.keep ee)
      have b5 := b4.trans (ee.mono b4.size)
      have z5 := b5.size
      have y5 := ee.size
      clear hw ee HR4 Hp4 Ha4 Hm4
      obtain ⟨aa, ab, ac, az⟩ := id Ha5.out
      go_wp2_with fail
      refine (CX.out Am cm _ Hm5.out).mono ?_
      rintro e w6 ⟨rfl, hw⟩
      have ee := hw
      have Hp6 := Lib.hid (Hp5.out.keep ee)
      have Ha6 := Lib.hid (Ha5.out.keep ee)
      have Hm6 := Lib.hid (Hm5.out.kept ee)
      have Hs6 := Lib.hid (Hs5.out.kept ee)
      have HR6 := Lib.hid (HR5.out.keep ee)
      have b6 := b5.trans (ee.mono b5.size)
      have z6 := b6.size
      have y6 := ee.size
      clear hw ee HR5 Hp5 Ha5 Hm5 Hs5 aa ab ac az
      obtain ⟨aa, ab, ac, az⟩ := id Ha6.out
      have an0 : ¬ w.heap.size + 1 = w6.heap.size := by omega
      go_wp2_with fail
      refine (CY.out As cs _ (Hs6.out.kept (by go_grown))).mono ?_
      rintro e w7 ⟨rfl, hw⟩
      have ee : Below w6.heap.size w6 w7 := below_of (by go_grown) hw
      have Hx7 : Hid (SBox w7 (w6.heap.size) X) := Lib.hid (SBox.keep ⟨by go_simp <;> rfl, by go_simp <;> rfl, by go_simp <;> rfl, by go_simp <;> rfl, by go_simp <;> rfl, by go_simp <;> rfl, by go_size⟩ hw)
      have Hp7 := Lib.hid (Hp6.out.keep ee)
      have Ha7 := Lib.hid (Ha6.out.keep ee)
      have Hm7 := Lib.hid (Hm6.out.kept ee)
      have Hs7 := Lib.hid (Hs6.out.kept ee)
      have HR7 := Lib.hid (HR6.out.keep ee)
      have b7 := b6.trans (ee.mono b6.size)
      have z7 := b7.size
      have y7 := ee.size
      clear hw ee HR6 Hp6 Ha6 Hm6 Hs6 aa ab ac az an0
      obtain ⟨aa, ab, ac, az⟩ := id Ha7.out
      have an0 : ¬ w.heap.size + 1 = w7.heap.size := by omega
      go_wp2_with fail
      refine (CL.out _ (HR7.out.keep (by go_grown))).mono ?_
      rintro e w8 ⟨rfl, hw⟩
      have ee : Below w7.heap.size w7 w8 := below_of (by go_grown) hw
      have Hy8 : Hid (SBox w8 (w7.heap.size) ⟨yp, X.h, X.r⟩) := Lib.hid (SBox.keep ⟨by go_simp <;> rfl, by go_simp <;> rfl, by go_simp <;> rfl, by go_simp <;> rfl, by go_simp <;> rfl, by go_simp <;> rfl, by go_size⟩ hw)
      have Hp8 := Lib.hid (Hp7.out.keep ee)
      have Ha8 := Lib.hid (Ha7.out.keep ee)
      have Hm8 := Lib.hid (Hm7.out.kept ee)
      have Hs8 := Lib.hid (Hs7.out.kept ee)
      have Hx8 := Lib.hid (Hx7.out.keep ee)
      have HR8 := Lib.hid (HR7.out.keep ee)
      have b8 := b7.trans (ee.mono b7.size)
      have z8 := b8.size
      have y8 := ee.size
      clear hw ee HR7 Hp7 Ha7 Hm7 Hs7 Hx7 aa ab ac az an0
      obtain ⟨pa, pb, pc, pg, -, -, -, -, pz⟩ := id Hp8.out
      have pn0 : ¬ w.heap.size = w8.heap.size := by omega
      obtain ⟨aa, ab, ac, az⟩ := id Ha8.out
      have an0 : ¬ w.heap.size + 1 = w8.heap.size := by omega
      go_wp2_with fail
      refine (CC2.out _).mono ?_
      rintro e w9 ⟨rfl, hw⟩
      have ee : Below w8.heap.size w8 w9 := below_of (by go_grown) hw
      have Hz9 : Hid (QBox w9 (w8.heap.size) ⟨zp, X.h⟩) := Lib.hid (QBox.kept (by refine ⟨?_, ?_, ?_, ?_, ?_, ?_⟩ <;> first | (go_simp; done) | (go_simp <;> rfl) | go_size) hw)
      have Hp9 := Lib.hid (Hp8.out.keep ee)
      have Ha9 := Lib.hid (Ha8.out.keep ee)
      have Hm9 := Lib.hid (Hm8.out.kept ee)
      have Hs9 := Lib.hid (Hs8.out.kept ee)
      have Hx9 := Lib.hid (Hx8.out.keep ee)
      have Hy9 := Lib.hid (Hy8.out.keep ee)
      have HR9 := Lib.hid (HR8.out.keep ee)
      have b9 := b8.trans (ee.mono b8.size)
      have z9 := b9.size
      have y9 := ee.size
      clear hw ee HR8 Hp8 Ha8 Hm8 Hs8 Hx8 Hy8 pa pb pc pg pz pn0 aa ab ac az an0
      obtain ⟨x0, x1, x2, x3, x4, x5, xz⟩ := id Hx9.out
      obtain ⟨y0, y1, y2, y3, y4, y5, yz⟩ := id Hy9.out
      obtain ⟨z0, z1, z2, z3, z4, zz⟩ := id Hz9.out
      clear lem les
      go_wp2_with fail
      refine (CQ2.out As cs _ Hs9.out HNs.out).mono ?_
      rintro e w10 hq
      obtain ⟨Aq, cq, rfl, leq, noq, rdq, hw⟩ := rowpc_rd hq
      have Hq10 := Lib.hid rdq
      have HNq := Lib.hid noq
      clear hq rdq noq
      have ee := hw
      have Hp10 := Lib.hid (Hp9.out.keep ee)
      have Ha10 := Lib.hid (Ha9.out.keep ee)
      have Hm10 := Lib.hid (Hm9.out.kept ee)
      have Hs10 := Lib.hid (Hs9.out.kept ee)
      have Hx10 := Lib.hid (Hx9.out.keep ee)
      have Hy10 := Lib.hid (Hy9.out.keep ee)
      have Hz10 := Lib.hid (Hz9.out.kept ee)
      have HR10 := Lib.hid (HR9.out.keep ee)
      have b10 := b9.trans (ee.mono b9.size)
      have z10 := b10.size
      have y10 := ee.size
      clear hw ee HR9 Hp9 Ha9 Hm9 Hs9 Hx9 Hy9 Hz9 x0 x1 x2 x3 x4 x5 xz y0 y1 y2 y3 y4 y5 yz z0 z1 z2 z3 z4 zz
      go_wp2_with fail
      refine (CT.out Aq cq _ Hq10.out).mono ?_
      rintro e w11 hq
      obtain ⟨Ai, ci, rfl, lei, noi, rdi, hw⟩ := rowrc_rd hq
      have Hi11 := Lib.hid rdi
      have HNi := Lib.hid noi
      clear hq rdi noi
      have ee := hw
      have Hp11 := Lib.hid (Hp10.out.keep ee)
      have Ha11 := Lib.hid (Ha10.out.keep ee)
      have Hm11 := Lib.hid (Hm10.out.kept ee)
      have Hs11 := Lib.hid (Hs10.out.kept ee)
      have Hx11 := Lib.hid (Hx10.out.keep ee)
      have Hy11 := Lib.hid (Hy10.out.keep ee)
      have Hz11 := Lib.hid (Hz10.out.kept ee)
      have Hq11 := Lib.hid (Hq10.out.kept ee)
      have HR11 := Lib.hid (HR10.out.keep ee)
      have b11 := b10.trans (ee.mono b10.size)
      have z11 := b11.size
      have y11 := ee.size
      clear hw ee HR10 Hp10 Ha10 Hm10 Hs10 Hx10 Hy10 Hz10 Hq10
      go_wp2_with fail
      refine (CT.out As cs _ Hs11.out).mono ?_
      rintro e w12 hq
      obtain ⟨Aj, cj, rfl, lej, noj, rdj, hw⟩ := rowrc_rd hq
      have Hj12 := Lib.hid rdj
      have HNj := Lib.hid noj
      clear hq rdj noj
      have ee := hw
      have Hp12 := Lib.hid (Hp11.out.keep ee)
      have Ha12 := Lib.hid (Ha11.out.keep ee)
      have Hm12 := Lib.hid (Hm11.out.kept ee)
      have Hs12 := Lib.hid (Hs11.out.kept ee)
      have Hx12 := Lib.hid (Hx11.out.keep ee)
      have Hy12 := Lib.hid (Hy11.out.keep ee)
      have Hz12 := Lib.hid (Hz11.out.kept ee)
      have Hq12 := Lib.hid (Hq11.out.kept ee)
      have Hi12 := Lib.hid (Hi11.out.kept ee)
      have HR12 := Lib.hid (HR11.out.keep ee)
      have b12 := b11.trans (ee.mono b11.size)
      have z12 := b12.size
      have y12 := ee.size
      clear hw ee HR11 Hp11 Ha11 Hm11 Hs11 Hx11 Hy11 Hz11 Hq11 Hi11
      go_wp2_with fail
      refine (CE.out Ai Aj ci cj _ Hi12.out Hj12.out).mono ?_
      rintro e w13 ⟨rfl, hw⟩
      have ee := hw
      have Hp13 := Lib.hid (Hp12.out.keep ee)
      have Ha13 := Lib.hid (Ha12.out.keep ee)
      have Hm13 := Lib.hid (Hm12.out.kept ee)
      have Hs13 := Lib.hid (Hs12.out.kept ee)
      have Hx13 := Lib.hid (Hx12.out.keep ee)
      have Hy13 := Lib.hid (Hy12.out.keep ee)
      have Hz13 := Lib.hid (Hz12.out.kept ee)
      have Hq13 := Lib.hid (Hq12.out.kept ee)
      have Hi13 := Lib.hid (Hi12.out.kept ee)
      have Hj13 := Lib.hid (Hj12.out.kept ee)
      have HR13 := Lib.hid (HR12.out.keep ee)
      have b13 := b12.trans (ee.mono b12.size)
      have z13 := b13.size
      have y13 := ee.size
      clear hw ee HR12 Hp12 Ha12 Hm12 Hs12 Hx12 Hy12 Hz12 Hq12 Hi12 Hj12
      go_wp2
      go_ret
      exact ⟨rfl, b13⟩

end Go.Proofs.Ythdnpilkkegniaa

namespace Go.Proofs.Ythdnpilkkegniaa
open Go.ChangeShapes Go.WideShapes Go.ChangeAt Go.RowKit

set_option maxRecDepth 100000 in
theorem coverSame_lifted (os : Os) (started : os.Started) (H : Type) (enc : TypeId × Value → H) :
    ReturnsInHanded {} Try.checked os 8 .any (Rows.coverSameSpec.pre6 enc Try.prog Try.f8 Rows.coverSameRow.domain false) (Rows.coverSameSpec.post enc Try.prog Try.f8 false true false false) := by
  refine returnsInHanded_of_change (C := Try.checked) own started (by kernel_rfl) Try.func8
    (ChangeSpec.witness6 (enc := enc) (C := Try.checked) false ⟨#[], #[.slice none 0 0, .agg #[.int .u64 0, .int .u64 0, .bool false, .int .i64 0], .agg #[.int .u64 0, .int .u64 0, .bool false]], []⟩ 8 (by kernel_rfl) (by kernel_rfl) (by kernel_rfl) (by kernel_rfl)) ?_
  intro W base args ds gs before hval0 hW hcnd _
  have hval : ∀ (j : Nat) t v, Try.f8.params[j]? = some t → args[j]? = some v → Value.okWide Try.prog W .any base t v := hval0
  have hW' := hW
  obtain ⟨p, q, hA0, hV, rfl, hfz, hnd⟩ := hW
  have hA : DataW.TrodAll enc Try.prog W 0 (fun _ => true) true Try.f8.params.toList args.toList ds p := hA0
  rw [Try.params8] at hA hval
  obtain ⟨v0, vs0, d0, ds0, p0, q0, hargs, rfl, rfl, h0, r0⟩ := trodAll_cons hA
  obtain ⟨v1, vs1, d1, ds1, p1, q1, rfl, rfl, rfl, h1, r1⟩ := trodAll_cons r0
  obtain ⟨v2, vs2, d2, ds2, p2, q2, rfl, rfl, rfl, h2, r2⟩ := trodAll_cons r1
  obtain ⟨rfl, rfl, rfl⟩ := trodAll_nil r2
  obtain rfl : args = #[v0, v1, v2] := by cases args; simp_all
  obtain ⟨rfl, rfl⟩ := trodVars_none hV
  have lt0 : ∀ x ∈ p0, x.block < W.heap.size := by obtain ⟨m, hm⟩ := h0; exact DataW.trod_lt m _ _ _ hm
  obtain ⟨A0, cap0, l0, rfl, w0⟩ := open_prs (hval 0 50 v0 rfl rfl) h0 (fun _ => rfl)
  have lt1 : ∀ x ∈ p1, x.block < W.heap.size := by obtain ⟨m, hm⟩ := h1; exact DataW.trod_lt m _ _ _ hm
  obtain ⟨a1, rfl, w1⟩ := open_pf (hval 1 27 v1 rfl rfl) h1
  have lt2 : ∀ x ∈ p2, x.block < W.heap.size := by obtain ⟨m, hm⟩ := h2; exact DataW.trod_lt m _ _ _ hm
  obtain ⟨a2, rfl⟩ := open_ad (hval 2 25 v2 rfl rfl) h2
  clear hA0 hval0
  refine (covsame_law A0 cap0 l0 a1 a2 W w0).mono fun e W' ⟨he, bel⟩ => ?_
  subst he
  exact ⟨_, rfl, _, _, _, [], _, [], hW', trodAll_mk1 (shut_bool Try.underlying4 _), (trodAll_cons_mk (Below.trod laidOut (by kernel_rfl) (of_decide_eq_true (by kernel_rfl)) h0 bel lt0) (trodAll_cons_mk (Below.trod laidOut (by kernel_rfl) (of_decide_eq_true (by kernel_rfl)) h1 bel lt1) (trodAll_cons_mk (Below.trod laidOut (by kernel_rfl) (of_decide_eq_true (by kernel_rfl)) h2 bel lt2) trodAll_mk0))), rfl, bel.frame _, fun h => by cases h⟩

theorem coverSame_holds : Rows.CoverSameSaid :=
  OpenClaim.holds_of_wide 8 Try.f8 rfl rfl rfl rfl rfl rfl rfl ⟨rfl, rfl, rfl, rfl, rfl⟩ rfl rfl rfl rfl rfl (by kernel_rfl) Try.func8 (by kernel_rfl)
    (of_decide_eq_true (by kernel_rfl)) (by unfold Func.isWrapper; first | (rw [if_pos (by decide +kernel)]; kernel_rfl) | (rw [if_neg (by decide +kernel)]; exact ⟨rfl, rfl⟩))
    (fun os started H enc _ => coverSame_lifted os started H enc)

end Go.Proofs.Ythdnpilkkegniaa
