/-
  CoverWhole: for every input the call returns true, and each argument reads afterwards as it read before. No condition.
-/
import Derived.Test.YthdnpilkkegniaaC1
import Derived.Test.YthdnpilkkegniaaH1
namespace Go.Proofs.Ythdnpilkkegniaa
open Go.RowKit Go.Maps
set_option maxRecDepth 100000


set_option maxHeartbeats 8000000 in
theorem covwhole_law (A : Option Addr) (cap : Nat) (ls : List Pr) (p : Pf) (w : World) (hr : RdQ w A ls) :
    Calls Try.prog 7 #[.slice A ls.length cap, .agg #[.int .u64 (u p.a.hi), .int .u64 (u p.a.lo), .bool p.a.v6, .int .i64 p.n]] w fun e w' => e = .returned (.bool true) ∧ Below w.heap.size w w' := by
  have HRD := Lib.hid hr
  clear hr
  by_cases hlen : 30 < ls.length
  · have t0 : decide ((30 : Int) < (ls.length : Int)) = true := by simp; omega
    go_enter Try.func7, Try.ntmps7
    go_wp2_with fail
    refine (awake8_any _).mono ?_
    rintro e w1 ⟨rfl, hw1⟩
    have b1 : Below w.heap.size w w1 := below_of (by go_grown) hw1
    go_wp2
    go_ret
    exact ⟨rfl, b1⟩
  · cases hp : psane p
    · have t0 : decide ((30 : Int) < (ls.length : Int)) = false := by simp; omega
      go_enter Try.func7, Try.ntmps7
      go_wp2_with fail
      refine (awake8_any _).mono ?_
      rintro e w1 ⟨rfl, hw1⟩
      have b1 : Below w.heap.size w w1 := below_of (by go_grown) hw1
      have Hp1 : Hid (PBox w1 (w.heap.size) p) := Lib.hid (PBox.keep (by exact ⟨by go_simp <;> rfl, by go_simp <;> rfl, by go_simp <;> rfl, by go_simp <;> rfl, by go_simp <;> rfl, by go_simp <;> rfl, by go_simp <;> rfl, by go_simp <;> rfl, by go_size⟩) hw1)
      have v1 := Hp1.out.2.2.2.2.2.2.2.2
      clear hw1
      go_wp2_with fail
      refine (filled8_any A cap ls _ (HRD.out.keep b1 (Nat.le_refl _)) (by omega)).mono ?_
      rintro e w3 ⟨r, S, rfl, hR3, hm3, hS3, hb3⟩
      have Hp3 := Lib.hid (Hp1.out.keep hb3)
      have b3 := b1.trans (hb3.mono b1.size)
      have z1 := b1.size
      have z3 := b3.size
      have hs3 := hR3.srt
      have hL3 := fill_len ls ls.length (Nat.le_refl _)
      generalize (fillK ls ls.length).1 = L at hR3 hs3 hL3
      generalize (fillK ls ls.length).2 = M at hR3 hm3
      have HR3 := Lib.hid hR3
      have HSR := Lib.hid hs3
      clear hR3 hS3 hs3 hb3 HRD b1 t0 Hp1
      have hN := all_len (n := 30) (by omega) p (L := L)
      have ca := fun W (H : RibS W r S 200 200 L M) => pieces_any H p 4096
      rw [show clampM 4096 = 4096 from by decide, List.take_of_length_le (by rw [pieces_len]; omega), decide_eq_true (by omega : (allB L p).length ≤ 4096)] at ca
      have hl : piecesL L p = [] := by unfold piecesL allB; rw [if_neg (by simp [hp])]; rfl
      rw [hl] at ca
      have hp1 : (!psane p) = true := by simp [hp]
      have CS := Lib.hid (psane_any p)
      clear hp hl hN hL3 hm3
      have CA := Lib.hid ca
      clear ca
      obtain ⟨pa, pb, pc, pg, -, -, -, -, pz⟩ := id Hp3.out
      go_wp2_with fail
      refine (CA.out _ HR3.out).mono ?_
      rintro e w4 hq
      obtain ⟨Am, cm, rfl, lem, nom, rdm, -, hw⟩ := hq.rd
      have Hm4 := Lib.hid rdm
      have HNm := Lib.hid nom
      clear hq rdm nom
      have ee := hw
      have Hp4 := Lib.hid (Hp3.out.keep ee)
      have HR4 := Lib.hid (HR3.out.keep ee)
      have b4 := b3.trans (ee.mono b3.size)
      have z4 := b4.size
      have y4 := ee.size
      clear hw ee HR3 Hp3 pa pb pc pg pz
      obtain ⟨pa, pb, pc, pg, -, -, -, -, pz⟩ := id Hp4.out
      go_wp2_with fail
      refine (CS.out _).mono ?_
      rintro e w5 ⟨rfl, hw⟩
      have ee := hw
      have Hp5 := Lib.hid (Hp4.out.keep ee)
      have Hm5 := Lib.hid (Hm4.out.kept ee)
      have HR5 := Lib.hid (HR4.out.keep ee)
      have b5 := b4.trans (ee.mono b4.size)
      have z5 := b5.size
      have y5 := ee.size
      clear hw ee HR4 Hp4 Hm4 pa pb pc pg pz
      go_wp2
      go_ret
      exact ⟨rfl, b5⟩
    · have t0 : decide ((30 : Int) < (ls.length : Int)) = false := by simp; omega
      go_enter Try.func7, Try.ntmps7
      go_wp2_with fail
      refine (awake8_any _).mono ?_
      rintro e w1 ⟨rfl, hw1⟩
      have b1 : Below w.heap.size w w1 := below_of (by go_grown) hw1
      have Hp1 : Hid (PBox w1 (w.heap.size) p) := Lib.hid (PBox.keep (by exact ⟨by go_simp <;> rfl, by go_simp <;> rfl, by go_simp <;> rfl, by go_simp <;> rfl, by go_simp <;> rfl, by go_simp <;> rfl, by go_simp <;> rfl, by go_simp <;> rfl, by go_size⟩) hw1)
      have v1 := Hp1.out.2.2.2.2.2.2.2.2
      clear hw1
      go_wp2_with fail
      refine (filled8_any A cap ls _ (HRD.out.keep b1 (Nat.le_refl _)) (by omega)).mono ?_
      rintro e w3 ⟨r, S, rfl, hR3, hm3, hS3, hb3⟩
      have Hp3 := Lib.hid (Hp1.out.keep hb3)
      have b3 := b1.trans (hb3.mono b1.size)
      have z1 := b1.size
      have z3 := b3.size
      have hs3 := hR3.srt
      have hL3 := fill_len ls ls.length (Nat.le_refl _)
      generalize (fillK ls ls.length).1 = L at hR3 hs3 hL3
      generalize (fillK ls ls.length).2 = M at hR3 hm3
      have HR3 := Lib.hid hR3
      have HSR := Lib.hid hs3
      clear hR3 hS3 hs3 hb3 HRD b1 t0 Hp1
      have hN := all_len (n := 30) (by omega) p (L := L)
      have ca := fun W (H : RibS W r S 200 200 L M) => pieces_any H p 4096
      rw [show clampM 4096 = 4096 from by decide, List.take_of_length_le (by rw [pieces_len]; omega), decide_eq_true (by omega : (allB L p).length ≤ 4096)] at ca
      have hp1 : (!psane p) = false := by simp [hp]
      have CS := Lib.hid (psane_any p)
      have hpl := pieces_len L p
      have hne : 0 < (piecesL L p).length := by
        rw [hpl]
        unfold allB
        rw [if_pos hp]
        exact List.length_pos_iff.2 (blk_ne L p hp)
      have cc := fun W (H : RibS W r S 200 200 L M) => count_any H p (by omega)
      rw [← hpl] at cc
      have fM := fun k (hk : k < (piecesL L p).length) => whole_at hp hk
      have hl5 : (piecesL L p).length ≤ 4096 := by omega
      obtain ⟨E, hE⟩ : ∃ E, fillv p.a p.n = E := ⟨_, rfl⟩
      rw [hE] at fM
      obtain ⟨at_, hat⟩ : ∃ at_ : Nat → Ad, at_ = atC p.a (blks L p) := ⟨_, rfl⟩
      rw [← hat] at fM
      have hat0 : at_ 0 = p.a := by rw [hat]; rfl
      have ce : ∀ W, Calls Try.prog 43 #[.agg #[.int .u64 (u p.a.hi), .int .u64 (u p.a.lo), .bool p.a.v6, .int .i64 p.n]] W fun e w' => e = .returned (.tuple #[.agg #[.int .u64 (u (at_ 0).hi), .int .u64 (u (at_ 0).lo), .bool (at_ 0).v6], .agg #[.int .u64 (u E.hi), .int .u64 (u E.lo), .bool E.v6]]) ∧ Below W.heap.size W w' := fun W => by
        have := pends_any p W
        rw [first_eq p hp] at this
        rw [hat0, ← hE]
        exact this
      generalize piecesL L p = l at ca cc fM hl5 hne
      have t1 : ((l.length : Int) == 0) = false := by rw [beq_eq_false_iff_ne]; omega
      have cg := fun q W (H : RibS W r S 200 200 L M) => rib_governs H q
      have ci := fun q W (H : RibS W r S 200 200 L M) => rib_ins H q
      have cn := fun a => next_any a
      unfold OptPost at cg
      have FM := Lib.hid fM
      clear fM hm3 hL3 hN hp hpl hne hE hat hat0
      have CA := Lib.hid ca
      have CC := Lib.hid cc
      have CE := Lib.hid ce
      have CG := Lib.hid cg
      have CI := Lib.hid ci
      have CN := Lib.hid cn
      clear ca cc ce cg ci cn
      obtain ⟨pa, pb, pc, pg, -, -, -, -, pz⟩ := id Hp3.out
      go_wp2_with fail
      refine (CA.out _ HR3.out).mono ?_
      rintro e w4 hq
      obtain ⟨Am, cm, rfl, lem, nom, rdm, -, hw⟩ := hq.rd
      have Hm4 := Lib.hid rdm
      have HNm := Lib.hid nom
      clear hq rdm nom
      have ee := hw
      have Hp4 := Lib.hid (Hp3.out.keep ee)
      have HR4 := Lib.hid (HR3.out.keep ee)
      have b4 := b3.trans (ee.mono b3.size)
      have z4 := b4.size
      have y4 := ee.size
      clear hw ee HR3 Hp3 pa pb pc pg pz
      obtain ⟨pa, pb, pc, pg, -, -, -, -, pz⟩ := id Hp4.out
      go_wp2_with fail
      refine (CS.out _).mono ?_
      rintro e w5 ⟨rfl, hw⟩
      have ee := hw
      have Hp5 := Lib.hid (Hp4.out.keep ee)
      have Hm5 := Lib.hid (Hm4.out.kept ee)
      have HR5 := Lib.hid (HR4.out.keep ee)
      have b5 := b4.trans (ee.mono b4.size)
      have z5 := b5.size
      have y5 := ee.size
      clear hw ee HR4 Hp4 Hm4 pa pb pc pg pz
      obtain ⟨pa, pb, pc, pg, -, -, -, -, pz⟩ := id Hp5.out
      go_wp2_with fail
      refine (CC.out _ HR5.out).mono ?_
      rintro e w6 ⟨rfl, hw⟩
      have ee := hw
      have Hp6 := Lib.hid (Hp5.out.keep ee)
      have Hm6 := Lib.hid (Hm5.out.kept ee)
      have HR6 := Lib.hid (HR5.out.keep ee)
      have b6 := b5.trans (ee.mono b5.size)
      have z6 := b6.size
      have y6 := ee.size
      clear hw ee HR5 Hp5 Hm5 pa pb pc pg pz
      obtain ⟨pa, pb, pc, pg, -, -, -, -, pz⟩ := id Hp6.out
      go_wp2_with fail
      refine (CE.out _).mono ?_
      rintro e w7 ⟨rfl, hw⟩
      have ee := hw
      have Hp7 := Lib.hid (Hp6.out.keep ee)
      have Hm7 := Lib.hid (Hm6.out.kept ee)
      have HR7 := Lib.hid (HR6.out.keep ee)
      have b7 := b6.trans (ee.mono b6.size)
      have z7 := b7.size
      have y7 := ee.size
      clear hw ee HR6 Hp6 Hm6 pa pb pc pg pz
      clear lem t1 HNm
      have Kp := Lib.hid Hp7.out
      have Km := Lib.hid Hm7.out
      have KR := Lib.hid HR7.out
      have B0 := Lib.hid b7
      have Z0 := Lib.hid z7
      go_wp2_with fail
      generalize hV : World.alloc _ _ = w8
      have ee : Below w7.heap.size w7 w8 := by subst hV; go_grown
      have hw0 := ee
      have Hc8 : Hid (HBox w8 (w7.heap.size) (at_ 0)) := Lib.hid (by subst hV; unfold HBox; repeat (first | (refine hp_new ?_; (simp; done)) | (refine hp_old ?_ ?_; · (first | (simp; done) | (simp; omega)))))
      have Hd8 : Hid (ABox w8 (w7.heap.size + 1) E) := Lib.hid (by subst hV; exact ⟨by go_simp <;> rfl, by go_simp <;> rfl, by go_simp <;> rfl, by go_size⟩)
      have Hp8 := Lib.hid (Hp7.out.keep ee)
      have Hm8 := Lib.hid (Hm7.out.kept ee)
      have HR8 := Lib.hid (HR7.out.keep ee)
      have b8 := b7.trans (ee.mono b7.size)
      have z8 := b8.size
      have y8 := ee.size
      clear hV ee HR7 Hp7 Hm7
      go_loopw [11] (fun i wr => ∃ k : Nat, k ≤ l.length ∧ i = .int .i64 k ∧ Hid (HBox wr w7.heap.size (at_ k)) ∧ Hid (ABox wr (w7.heap.size + 1) E) ∧ Below w7.heap.size w7 wr) (fun i _ => l.length - (intOf i).toNat)
      case atStart => exact ⟨0, Nat.zero_le _, rfl, Hc8, Hd8, hw0⟩
      case round =>
        obtain ⟨k, hk, rfl, hc, hd, hB⟩ := hrel
        by_cases hlt : k < l.length
        · have hlt' : (k : Int) < (l.length : Int) := by omega
          have hk0 : (0 : Int) ≤ (k : Int) := by omega
          have hk9 : (k : Int) + 1 ≤ 1000000000 := by omega
          have hl9 : (l.length : Int) - 1 ≤ 1000000000 := by omega
          have hl8 : -1 ≤ (l.length : Int) - 1 := by omega
          obtain ⟨w9, rfl⟩ : ∃ w9, w9 = wr := ⟨_, rfl⟩
          have Hp9 := Lib.hid (Kp.out.keep hB)
          have Hm9 := Lib.hid (Km.out.kept hB)
          have HR9 := Lib.hid (KR.out.keep hB)
          have Hc9 := hc
          have Hd9 := hd
          have b9 := hB
          have z9 := hB.size
          have y9 := hB.size
          have v9 := lt_of_block Hc9.out
          obtain ⟨mg, mo, hA, he⟩ := rd_ebox Hm9.out hlt
          subst hA
          have He9 := Lib.hid he
          clear he
          have fx := FM.out k hlt
          obtain ⟨x, hx⟩ : ∃ x, l[k] = x := ⟨_, rfl⟩
          rw [hx] at fx He9
          clear hx Hm9 Hm8 Hp8 HR8 Hc8 Hd8 hc hd hB HSR Kp Km KR
          obtain ⟨f0, f1, f2, f3, f4, f5, f6, f7⟩ := fx
          have cg1 := fun W (H : RibS W r S 200 200 L M) => CG.out x.p W H
          rw [f4] at cg1
          unfold hopO at f3
          obtain ⟨⟨yp, yv⟩, hy⟩ : ∃ y, (govL L x.p).getD nilPr = y := ⟨_, rfl⟩
          rw [hy] at cg1 f3
          simp only at f3
          subst f3
          simp only at cg1
          have cv := pcov_any p x.p
          rw [f1] at cv
          have ci1 := fun W (H : RibS W r S 200 200 L M) => CI.out x.p W H
          rw [f2] at ci1
          obtain ⟨E1, hE1⟩ : ∃ E1, fillv x.p.a x.p.n = E1 := ⟨_, rfl⟩
          have ce1 : ∀ W, Calls Try.prog 43 #[.agg #[.int .u64 (u x.p.a.hi), .int .u64 (u x.p.a.lo), .bool x.p.a.v6, .int .i64 x.p.n]] W fun e w' => e = .returned (.tuple #[.agg #[.int .u64 (u (at_ k).hi), .int .u64 (u (at_ k).lo), .bool (at_ k).v6], .agg #[.int .u64 (u E1.hi), .int .u64 (u E1.lo), .bool E1.v6]]) ∧ Below W.heap.size W w' := fun W => by
            have := pends_any x.p W
            rw [first_eq x.p f0] at this
            rw [← f5, ← hE1]
            exact this
          rw [hE1] at f6 f7
          have cn1 := CN.out E1
          rw [← f7] at cn1
          generalize (nextv E1).2 = nb at cn1
          have f8 : adB (u E1.hi) (u E1.lo) E1.v6 (u E.hi) (u E.lo) E.v6 = decide (k + 1 = l.length) := by rw [adB_iff, Bool.eq_iff_iff, decide_eq_true_iff, decide_eq_true_iff]; exact f6
          clear f0 f1 f2 f4 f5 f6 f7 hy hE1
          have CG1 := Lib.hid cg1
          have CE1 := Lib.hid ce1
          have CV := Lib.hid cv
          have CI1 := Lib.hid ci1
          have CN1 := Lib.hid cn1
          clear cg1 ce1 cv ci1 cn1
          obtain ⟨e0, e1, e2, e3, e4, e5, ez⟩ := id He9.out
          go_wp2_with fail
          refine (CE1.out _).mono ?_
          rintro e w10 ⟨rfl, hw⟩
          have ee := hw
          have Hp10 := Lib.hid (Hp9.out.keep ee)
          have Hc10 := Lib.hid (Hc9.out.keep ee)
          have Hd10 := Lib.hid (Hd9.out.keep ee)
          have He10 := Lib.hid (He9.out.keep ee)
          have HR10 := Lib.hid (HR9.out.keep ee)
          have b10 := b9.trans (ee.mono b9.size)
          have z10 := b10.size
          have y10 := ee.size
          clear hw ee HR9 Hp9 Hc9 Hd9 He9 e0 e1 e2 e3 e4 e5 ez
          obtain ⟨e0, e1, e2, e3, e4, e5, ez⟩ := id He10.out
          have en0 : ¬ mg = w10.heap.size := by omega
          have en1 : ¬ mg = w10.heap.size + 1 := by omega
          go_wp2_with fail
          refine (CG1.out _ (HR10.out.keep (by go_grown))).mono ?_
          rintro e w11 ⟨rfl, hw⟩
          have ee : Below w10.heap.size w10 w11 := below_of (by go_grown) hw
          have Hf11 : Hid (ABox w11 (w10.heap.size) (at_ k)) := Lib.hid (ABox.keep ⟨by go_simp <;> rfl, by go_simp <;> rfl, by go_simp <;> rfl, by go_size⟩ hw)
          have Hl11 : Hid (ABox w11 (w10.heap.size + 1) E1) := Lib.hid (ABox.keep ⟨by go_simp <;> rfl, by go_simp <;> rfl, by go_simp <;> rfl, by go_size⟩ hw)
          have Hp11 := Lib.hid (Hp10.out.keep ee)
          have Hc11 := Lib.hid (Hc10.out.keep ee)
          have Hd11 := Lib.hid (Hd10.out.keep ee)
          have He11 := Lib.hid (He10.out.keep ee)
          have HR11 := Lib.hid (HR10.out.keep ee)
          have b11 := b10.trans (ee.mono b10.size)
          have z11 := b11.size
          have y11 := ee.size
          clear hw ee HR10 Hp10 Hc10 Hd10 He10 e0 e1 e2 e3 e4 e5 ez en0 en1
          go_wp2_with fail
          generalize hV : World.alloc _ _ = w12
          have ee : Below w11.heap.size w11 w12 := by subst hV; go_grown
          have Hy12 : Hid (QBox w12 (w11.heap.size) ⟨yp, x.h⟩) := Lib.hid (by subst hV; exact (by refine ⟨?_, ?_, ?_, ?_, ?_, ?_⟩ <;> first | (go_simp; done) | (go_simp <;> rfl) | go_size))
          have Hp12 := Lib.hid (Hp11.out.keep ee)
          have Hc12 := Lib.hid (Hc11.out.keep ee)
          have Hd12 := Lib.hid (Hd11.out.keep ee)
          have He12 := Lib.hid (He11.out.keep ee)
          have Hf12 := Lib.hid (Hf11.out.keep ee)
          have Hl12 := Lib.hid (Hl11.out.keep ee)
          have HR12 := Lib.hid (HR11.out.keep ee)
          have b12 := b11.trans (ee.mono b11.size)
          have z12 := b12.size
          have y12 := ee.size
          clear hV ee HR11 Hp11 Hc11 Hd11 He11 Hf11 Hl11
          rcases Nat.lt_or_eq_of_le (Nat.succ_le_of_lt hlt) with hlast | hlast
          · have f9 : decide (k + 1 = l.length) = false := decide_eq_false (by omega)
            rw [f9] at f8
            have t5 : ((k : Int) == (l.length : Int) - 1) = false := by rw [beq_eq_false_iff_ne]; omega
            clear f9
            have HLA := Lib.hid hlast
            clear hlast
            go_wp2_with fail
            try simp only [List.append_eq, List.cons_append, List.nil_append]
            obtain ⟨e0, e1, e2, e3, e4, e5, ez⟩ := id He12.out
            obtain ⟨pa, pb, pc, pg, -, -, -, -, pz⟩ := id Hp12.out
            obtain ⟨ca, cb, cc, cz⟩ := id Hc12.out.abox
            obtain ⟨da, db, dc, dz⟩ := id Hd12.out
            obtain ⟨fa, fb, fc, fz⟩ := id Hf12.out
            obtain ⟨la, lb, lc, lz⟩ := id Hl12.out
            obtain ⟨y0, y1, y2, y3, y4, yz⟩ := id Hy12.out
            have Le0 := fun x : Later w12.heap.size w12 => (x.cell (p := ⟨mg, mo + k * 6, none⟩) ez).trans e0
            have Le1 := fun x : Later w12.heap.size w12 => (x.cell (p := ⟨mg, mo + k * 6 + 1, none⟩) ez).trans e1
            have Le2 := fun x : Later w12.heap.size w12 => (x.cell (p := ⟨mg, mo + k * 6 + 2, none⟩) ez).trans e2
            have Le3 := fun x : Later w12.heap.size w12 => (x.cell (p := ⟨mg, mo + k * 6 + 3, none⟩) ez).trans e3
            have Le4 := fun x : Later w12.heap.size w12 => (x.cell (p := ⟨mg, mo + k * 6 + 4, none⟩) ez).trans e4
            have Le5 := fun x : Later w12.heap.size w12 => (x.cell (p := ⟨mg, mo + k * 6 + 5, none⟩) ez).trans e5
            have Lpa := fun x : Later w12.heap.size w12 => (x.cell pz).trans pa
            have Lpb := fun x : Later w12.heap.size w12 => (x.cell pz).trans pb
            have Lpc := fun x : Later w12.heap.size w12 => (x.cell pz).trans pc
            have Lpg := fun x : Later w12.heap.size w12 => (x.cell pz).trans pg
            have Lca := fun x : Later w12.heap.size w12 => (x.cell cz).trans ca
            have Lcb := fun x : Later w12.heap.size w12 => (x.cell cz).trans cb
            have Lcc := fun x : Later w12.heap.size w12 => (x.cell cz).trans cc
            have Lda := fun x : Later w12.heap.size w12 => (x.cell dz).trans da
            have Ldb := fun x : Later w12.heap.size w12 => (x.cell dz).trans db
            have Ldc := fun x : Later w12.heap.size w12 => (x.cell dz).trans dc
            have Lfa := fun x : Later w12.heap.size w12 => (x.cell fz).trans fa
            have Lfb := fun x : Later w12.heap.size w12 => (x.cell fz).trans fb
            have Lfc := fun x : Later w12.heap.size w12 => (x.cell fz).trans fc
            have Lla := fun x : Later w12.heap.size w12 => (x.cell lz).trans la
            have Llb := fun x : Later w12.heap.size w12 => (x.cell lz).trans lb
            have Llc := fun x : Later w12.heap.size w12 => (x.cell lz).trans lc
            have Ly0 := fun x : Later w12.heap.size w12 => (x.cell yz).trans y0
            have Ly1 := fun x : Later w12.heap.size w12 => (x.cell yz).trans y1
            have Ly2 := fun x : Later w12.heap.size w12 => (x.cell yz).trans y2
            have Ly3 := fun x : Later w12.heap.size w12 => (x.cell yz).trans y3
            have Ly4 := fun x : Later w12.heap.size w12 => (x.cell yz).trans y4
            refine region_later w12.heap.size (by kernel_rfl) (by kernel_rfl) ?_
            repeat (go_big_quiet_step (first | (go_at_call 45; exact later_of (Nat.le_refl _) (CV.out _)) | (go_at_call 46; exact later_of (Nat.le_refl _) (CI1.out _ (HR12.out.keep (Later.below _))))))
            refine wpQuiet_nil ?_
            intro x
            have ee := x.below
            generalize x.at = w13 at ee ⊢
            clear x Le0 Le1 Le2 Le3 Le4 Le5 Lpa Lpb Lpc Lpg Lca Lcb Lcc Lda Ldb Ldc Lfa Lfb Lfc Lla Llb Llc Ly0 Ly1 Ly2 Ly3 Ly4
            have Hp13 := Lib.hid (Hp12.out.keep ee)
            have Hc13 := Lib.hid (Hc12.out.keep ee)
            have Hd13 := Lib.hid (Hd12.out.keep ee)
            have He13 := Lib.hid (He12.out.keep ee)
            have Hf13 := Lib.hid (Hf12.out.keep ee)
            have Hl13 := Lib.hid (Hl12.out.keep ee)
            have Hy13 := Lib.hid (Hy12.out.kept ee)
            have HR13 := Lib.hid (HR12.out.keep ee)
            have b13 := b12.trans (ee.mono b12.size)
            have z13 := b13.size
            have y13 := ee.size
            clear ee HR12 Hp12 Hc12 Hd12 He12 Hf12 Hl12 Hy12 e0 e1 e2 e3 e4 e5 ez pa pb pc pg pz ca cb cc cz da db dc dz fa fb fc fz la lb lc lz y0 y1 y2 y3 y4 yz
            obtain ⟨la, lb, lc, lz⟩ := id Hl13.out
            go_wp2_with fail
            refine (CN1.out _).mono ?_
            rintro e w14 ⟨rfl, hw⟩
            have ee := hw
            have Hp14 := Lib.hid (Hp13.out.keep ee)
            have Hc14 := Lib.hid (Hc13.out.keep ee)
            have Hd14 := Lib.hid (Hd13.out.keep ee)
            have He14 := Lib.hid (He13.out.keep ee)
            have Hf14 := Lib.hid (Hf13.out.keep ee)
            have Hl14 := Lib.hid (Hl13.out.keep ee)
            have Hy14 := Lib.hid (Hy13.out.kept ee)
            have HR14 := Lib.hid (HR13.out.keep ee)
            have b14 := b13.trans (ee.mono b13.size)
            have z14 := b14.size
            have y14 := ee.size
            clear hw ee HR13 Hp13 Hc13 Hd13 He13 Hf13 Hl13 Hy13 la lb lc lz
            go_upto_region 19 with fail
            generalize hV : World.alloc _ _ = w15
            have ee : Below w14.heap.size w14 w15 := by subst hV; go_grown
            have Hn15 : Hid (ABox w15 (w14.heap.size) (at_ (k + 1))) := Lib.hid (by subst hV; exact ⟨by go_simp <;> rfl, by go_simp <;> rfl, by go_simp <;> rfl, by go_size⟩)
            have Hp15 := Lib.hid (Hp14.out.keep ee)
            have Hc15 := Lib.hid (Hc14.out.keep ee)
            have Hd15 := Lib.hid (Hd14.out.keep ee)
            have He15 := Lib.hid (He14.out.keep ee)
            have Hf15 := Lib.hid (Hf14.out.keep ee)
            have Hl15 := Lib.hid (Hl14.out.keep ee)
            have Hy15 := Lib.hid (Hy14.out.kept ee)
            have HR15 := Lib.hid (HR14.out.keep ee)
            have b15 := b14.trans (ee.mono b14.size)
            have z15 := b15.size
            have y15 := ee.size
            clear hV ee HR14 Hp14 Hc14 Hd14 He14 Hf14 Hl14 Hy14
            obtain ⟨na, nb, nc, nz⟩ := id Hn15.out
            clear hlt'
            have hcz := lt_of_block Hc15.out
            go_wp2_with (refine wpList_row rfl _ _ _ rfl w7.heap.size _ rfl rfl 25 _ Hc15.out 3 size_ad rfl rfl rfl ?_; intro w9 h9 f9; have b9 : Below w7.heap.size w7 w9 := b15.trans (f9.below (fun b hb => by omega) (by omega)); have Hc9 : Hid (HBox w9 w7.heap.size (at_ (k + 1))) := Lib.hid h9; have Hd9 : Hid (ABox w9 (w7.heap.size + 1) E) := Lib.hid (Hd15.out.frm f9 (fun e => by omega)); have Hl9 := Lib.hid (Hl15.out.frm f9 (fun e => by omega)); obtain ⟨da, db, dc, dz⟩ := id Hd9.out; obtain ⟨la, lb, lc, lz⟩ := id Hl9.out; clear h9 f9 na nb nc nz Hc15 Hd15 Hl15)
            go_roundw
            case rel => exact ⟨k + 1, by omega, by go_num, Hc9, Hd9, b9⟩
            case measure => simp [intOf]; omega
          · have f9 : decide (k + 1 = l.length) = true := decide_eq_true (by omega)
            rw [f9] at f8
            have t5 : ((k : Int) == (l.length : Int) - 1) = true := by rw [beq_iff_eq]; omega
            have t6 : ((k : Int) != (l.length : Int) - 1) = false := by rw [bne_eq_false_iff_eq]; omega
            clear f9
            have HLA := Lib.hid hlast
            clear hlast
            go_wp2_with fail
            try simp only [List.append_eq, List.cons_append, List.nil_append]
            obtain ⟨e0, e1, e2, e3, e4, e5, ez⟩ := id He12.out
            obtain ⟨pa, pb, pc, pg, -, -, -, -, pz⟩ := id Hp12.out
            obtain ⟨ca, cb, cc, cz⟩ := id Hc12.out.abox
            obtain ⟨da, db, dc, dz⟩ := id Hd12.out
            obtain ⟨fa, fb, fc, fz⟩ := id Hf12.out
            obtain ⟨la, lb, lc, lz⟩ := id Hl12.out
            obtain ⟨y0, y1, y2, y3, y4, yz⟩ := id Hy12.out
            have Le0 := fun x : Later w12.heap.size w12 => (x.cell (p := ⟨mg, mo + k * 6, none⟩) ez).trans e0
            have Le1 := fun x : Later w12.heap.size w12 => (x.cell (p := ⟨mg, mo + k * 6 + 1, none⟩) ez).trans e1
            have Le2 := fun x : Later w12.heap.size w12 => (x.cell (p := ⟨mg, mo + k * 6 + 2, none⟩) ez).trans e2
            have Le3 := fun x : Later w12.heap.size w12 => (x.cell (p := ⟨mg, mo + k * 6 + 3, none⟩) ez).trans e3
            have Le4 := fun x : Later w12.heap.size w12 => (x.cell (p := ⟨mg, mo + k * 6 + 4, none⟩) ez).trans e4
            have Le5 := fun x : Later w12.heap.size w12 => (x.cell (p := ⟨mg, mo + k * 6 + 5, none⟩) ez).trans e5
            have Lpa := fun x : Later w12.heap.size w12 => (x.cell pz).trans pa
            have Lpb := fun x : Later w12.heap.size w12 => (x.cell pz).trans pb
            have Lpc := fun x : Later w12.heap.size w12 => (x.cell pz).trans pc
            have Lpg := fun x : Later w12.heap.size w12 => (x.cell pz).trans pg
            have Lca := fun x : Later w12.heap.size w12 => (x.cell cz).trans ca
            have Lcb := fun x : Later w12.heap.size w12 => (x.cell cz).trans cb
            have Lcc := fun x : Later w12.heap.size w12 => (x.cell cz).trans cc
            have Lda := fun x : Later w12.heap.size w12 => (x.cell dz).trans da
            have Ldb := fun x : Later w12.heap.size w12 => (x.cell dz).trans db
            have Ldc := fun x : Later w12.heap.size w12 => (x.cell dz).trans dc
            have Lfa := fun x : Later w12.heap.size w12 => (x.cell fz).trans fa
            have Lfb := fun x : Later w12.heap.size w12 => (x.cell fz).trans fb
            have Lfc := fun x : Later w12.heap.size w12 => (x.cell fz).trans fc
            have Lla := fun x : Later w12.heap.size w12 => (x.cell lz).trans la
            have Llb := fun x : Later w12.heap.size w12 => (x.cell lz).trans lb
            have Llc := fun x : Later w12.heap.size w12 => (x.cell lz).trans lc
            have Ly0 := fun x : Later w12.heap.size w12 => (x.cell yz).trans y0
            have Ly1 := fun x : Later w12.heap.size w12 => (x.cell yz).trans y1
            have Ly2 := fun x : Later w12.heap.size w12 => (x.cell yz).trans y2
            have Ly3 := fun x : Later w12.heap.size w12 => (x.cell yz).trans y3
            have Ly4 := fun x : Later w12.heap.size w12 => (x.cell yz).trans y4
            refine region_later w12.heap.size (by kernel_rfl) (by kernel_rfl) ?_
            repeat (go_big_quiet_step (first | (go_at_call 45; exact later_of (Nat.le_refl _) (CV.out _)) | (go_at_call 46; exact later_of (Nat.le_refl _) (CI1.out _ (HR12.out.keep (Later.below _))))))
            refine wpQuiet_nil ?_
            intro x
            have ee := x.below
            generalize x.at = w13 at ee ⊢
            clear x Le0 Le1 Le2 Le3 Le4 Le5 Lpa Lpb Lpc Lpg Lca Lcb Lcc Lda Ldb Ldc Lfa Lfb Lfc Lla Llb Llc Ly0 Ly1 Ly2 Ly3 Ly4
            have Hp13 := Lib.hid (Hp12.out.keep ee)
            have Hc13 := Lib.hid (Hc12.out.keep ee)
            have Hd13 := Lib.hid (Hd12.out.keep ee)
            have He13 := Lib.hid (He12.out.keep ee)
            have Hf13 := Lib.hid (Hf12.out.keep ee)
            have Hl13 := Lib.hid (Hl12.out.keep ee)
            have Hy13 := Lib.hid (Hy12.out.kept ee)
            have HR13 := Lib.hid (HR12.out.keep ee)
            have b13 := b12.trans (ee.mono b12.size)
            have z13 := b13.size
            have y13 := ee.size
            clear ee HR12 Hp12 Hc12 Hd12 He12 Hf12 Hl12 Hy12 e0 e1 e2 e3 e4 e5 ez pa pb pc pg pz ca cb cc cz da db dc dz fa fb fc fz la lb lc lz y0 y1 y2 y3 y4 yz
            obtain ⟨la, lb, lc, lz⟩ := id Hl13.out
            go_wp2_with fail
            refine (CN1.out _).mono ?_
            rintro e w14 ⟨rfl, hw⟩
            have ee := hw
            have Hp14 := Lib.hid (Hp13.out.keep ee)
            have Hc14 := Lib.hid (Hc13.out.keep ee)
            have Hd14 := Lib.hid (Hd13.out.keep ee)
            have He14 := Lib.hid (He13.out.keep ee)
            have Hf14 := Lib.hid (Hf13.out.keep ee)
            have Hl14 := Lib.hid (Hl13.out.keep ee)
            have Hy14 := Lib.hid (Hy13.out.kept ee)
            have HR14 := Lib.hid (HR13.out.keep ee)
            have b14 := b13.trans (ee.mono b13.size)
            have z14 := b14.size
            have y14 := ee.size
            clear hw ee HR13 Hp13 Hc13 Hd13 He13 Hf13 Hl13 Hy13 la lb lc lz
            go_upto_region 19 with fail
            generalize hV : World.alloc _ _ = w15
            have ee : Below w14.heap.size w14 w15 := by subst hV; go_grown
            have Hn15 : Hid (ABox w15 (w14.heap.size) (at_ (k + 1))) := Lib.hid (by subst hV; exact ⟨by go_simp <;> rfl, by go_simp <;> rfl, by go_simp <;> rfl, by go_size⟩)
            have Hp15 := Lib.hid (Hp14.out.keep ee)
            have Hc15 := Lib.hid (Hc14.out.keep ee)
            have Hd15 := Lib.hid (Hd14.out.keep ee)
            have He15 := Lib.hid (He14.out.keep ee)
            have Hf15 := Lib.hid (Hf14.out.keep ee)
            have Hl15 := Lib.hid (Hl14.out.keep ee)
            have Hy15 := Lib.hid (Hy14.out.kept ee)
            have HR15 := Lib.hid (HR14.out.keep ee)
            have b15 := b14.trans (ee.mono b14.size)
            have z15 := b15.size
            have y15 := ee.size
            clear hV ee HR14 Hp14 Hc14 Hd14 He14 Hf14 Hl14 Hy14
            obtain ⟨na, nb, nc, nz⟩ := id Hn15.out
            clear hlt' t6
            have hcz := lt_of_block Hc15.out
            go_wp2_with (refine wpList_row rfl _ _ _ rfl w7.heap.size _ rfl rfl 25 _ Hc15.out 3 size_ad rfl rfl rfl ?_; intro w9 h9 f9; have b9 : Below w7.heap.size w7 w9 := b15.trans (f9.below (fun b hb => by omega) (by omega)); have Hc9 : Hid (HBox w9 w7.heap.size (at_ (k + 1))) := Lib.hid h9; have Hd9 : Hid (ABox w9 (w7.heap.size + 1) E) := Lib.hid (Hd15.out.frm f9 (fun e => by omega)); have Hl9 := Lib.hid (Hl15.out.frm f9 (fun e => by omega)); obtain ⟨da, db, dc, dz⟩ := id Hd9.out; obtain ⟨la, lb, lc, lz⟩ := id Hl9.out; clear h9 f9 na nb nc nz Hc15 Hd15 Hl15)
            go_roundw
            case rel => exact ⟨k + 1, by omega, by go_num, Hc9, Hd9, b9⟩
            case measure => simp [intOf]; omega
        · obtain rfl : k = l.length := by omega
          have hlt' : ¬ (l.length : Int) < (l.length : Int) := by omega
          go_wp2
          go_ret
          exact ⟨rfl, B0.out.trans (hB.mono Z0.out)⟩

end Go.Proofs.Ythdnpilkkegniaa

namespace Go.Proofs.Ythdnpilkkegniaa
open Go.ChangeShapes Go.WideShapes Go.ChangeAt Go.RowKit

set_option maxRecDepth 100000 in
theorem coverWhole_lifted (os : Os) (started : os.Started) (H : Type) (enc : TypeId × Value → H) :
    ReturnsInHanded {} Try.checked os 7 .any (Rows.coverWholeSpec.pre6 enc Try.prog Try.f7 Rows.coverWholeRow.domain false) (Rows.coverWholeSpec.post enc Try.prog Try.f7 false true false false) := by
  refine returnsInHanded_of_change (C := Try.checked) own started (by kernel_rfl) Try.func7
    (ChangeSpec.witness6 (enc := enc) (C := Try.checked) false ⟨#[], #[.slice none 0 0, .agg #[.int .u64 0, .int .u64 0, .bool false, .int .i64 0]], []⟩ 8 (by kernel_rfl) (by kernel_rfl) (by kernel_rfl) (by kernel_rfl)) ?_
  intro W base args ds gs before hval0 hW hcnd _
  have hval : ∀ (j : Nat) t v, Try.f7.params[j]? = some t → args[j]? = some v → Value.okWide Try.prog W .any base t v := hval0
  have hW' := hW
  obtain ⟨p, q, hA0, hV, rfl, hfz, hnd⟩ := hW
  have hA : DataW.TrodAll enc Try.prog W 0 (fun _ => true) true Try.f7.params.toList args.toList ds p := hA0
  rw [Try.params7] at hA hval
  obtain ⟨v0, vs0, d0, ds0, p0, q0, hargs, rfl, rfl, h0, r0⟩ := trodAll_cons hA
  obtain ⟨v1, vs1, d1, ds1, p1, q1, rfl, rfl, rfl, h1, r1⟩ := trodAll_cons r0
  obtain ⟨rfl, rfl, rfl⟩ := trodAll_nil r1
  obtain rfl : args = #[v0, v1] := by cases args; simp_all
  obtain ⟨rfl, rfl⟩ := trodVars_none hV
  have lt0 : ∀ x ∈ p0, x.block < W.heap.size := by obtain ⟨m, hm⟩ := h0; exact DataW.trod_lt m _ _ _ hm
  obtain ⟨A0, cap0, l0, rfl, w0⟩ := open_prs (hval 0 50 v0 rfl rfl) h0 (fun _ => rfl)
  have lt1 : ∀ x ∈ p1, x.block < W.heap.size := by obtain ⟨m, hm⟩ := h1; exact DataW.trod_lt m _ _ _ hm
  obtain ⟨a1, rfl, w1⟩ := open_pf (hval 1 27 v1 rfl rfl) h1
  clear hA0 hval0
  refine (covwhole_law A0 cap0 l0 a1 W w0).mono fun e W' ⟨he, bel⟩ => ?_
  subst he
  exact ⟨_, rfl, _, _, _, [], _, [], hW', trodAll_mk1 (shut_bool Try.underlying4 _), (trodAll_cons_mk (Below.trod laidOut (by kernel_rfl) (of_decide_eq_true (by kernel_rfl)) h0 bel lt0) (trodAll_cons_mk (Below.trod laidOut (by kernel_rfl) (of_decide_eq_true (by kernel_rfl)) h1 bel lt1) trodAll_mk0)), rfl, bel.frame _, fun h => by cases h⟩

theorem coverWhole_holds : Rows.CoverWholeSaid :=
  OpenClaim.holds_of_wide 7 Try.f7 rfl rfl rfl rfl rfl rfl rfl ⟨rfl, rfl, rfl, rfl, rfl⟩ rfl rfl rfl rfl rfl (by kernel_rfl) Try.func7 (by kernel_rfl)
    (of_decide_eq_true (by kernel_rfl)) (by unfold Func.isWrapper; first | (rw [if_pos (by decide +kernel)]; kernel_rfl) | (rw [if_neg (by decide +kernel)]; exact ⟨rfl, rfl⟩))
    (fun os started H enc _ => coverWhole_lifted os started H enc)

end Go.Proofs.Ythdnpilkkegniaa
