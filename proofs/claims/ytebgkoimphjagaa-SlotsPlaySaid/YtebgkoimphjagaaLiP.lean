/-
  SlotsPlay returns true, and leaves all old memory as it was. Condition: the list lies where the argument says.
-/
import Derived.Test.YtebgkoimphjagaaSr
import Derived.Deep.CutBlock
namespace Go.Proofs.Ytebgkoimphjagaa
open Go.RowKit
set_option maxRecDepth 100000

theorem PlayM.four {w1 wr : World} {t q ob : Nat} {a : Ac9} {r : Rw} {s s' : Sl} (h : PlayM w1 t q ob a r s s' wr) :
    wr.cell? ⟨q, 0, none⟩ = some (.slice r.A s.most r.ca) ∧ wr.cell? ⟨q, 1, none⟩ = some (.slice r.B s.most r.cb) ∧ wr.cell? ⟨q, 2, none⟩ = some (.slice r.C s.fr.length r.cc) ∧ wr.cell? ⟨q, 3, none⟩ = some (.int .i64 s.pl.length) ∧ wr.cell? ⟨ob, 0, none⟩ = some (.int .i64 a.what) ∧ wr.cell? ⟨ob, 1, none⟩ = some (.int .i64 a.i) ∧ wr.cell? ⟨ob, 2, none⟩ = some (.int .i64 a.x) ∧ q < wr.heap.size ∧ ob < wr.heap.size := by
  obtain ⟨p0, p1, p2, p3, -, -, -, -, pz⟩ := Go.Proofs.Ytebgkoimphjagaa.four h.Q
  exact ⟨p0, p1, p2, p3, by rw [cell_row h.O]; rfl, by rw [cell_row h.O]; rfl, by rw [cell_row h.O]; rfl, pz, lt_of_block h.O⟩

theorem plsame {w1 wr : World} {t q : Nat} {r : Rw} {s : Sl} (h : PlayW w1 t q r s wr) (j : Int) : Calls Try.prog 17 #[.pointer (some ⟨t, 0, none⟩), r.v s, .int .i64 j] wr fun e w' => e = .returned (.bool true) ∧ Below wr.heap.size wr w' := by
  obtain ⟨hk, S, h1, -⟩ := h.X
  exact same9s_any wr t S r s h1 h.R hk j

set_option maxHeartbeats 8000000 in
theorem play_law (most : Int) (A : Option Addr) (cap : Nat) (ls : List Ac9) (i : Int) (w : World) (hr : KA9.Rd w A ls) : Calls Try.prog 3 #[.int .i64 most, .slice A ls.length cap, .int .i64 i] w fun e w' => e = .returned (.bool true) ∧ Below w.heap.size w w' := by
  have HR := Lib.hid hr
  clear hr
  by_cases hlen : 100 < ls.length
  · have t0 : decide ((100 : Int) < (ls.length : Int)) = true := by simp; omega
    go_enter Try.func3, Try.ntmps3
    go_wp2_with fail
    refine (awake9_any _).mono ?_
    rintro e w1 ⟨rfl, hw1⟩
    go_wp2
    go_ret
    exact ⟨rfl, hw1⟩
  · have t0 : decide ((100 : Int) < (ls.length : Int)) = false := by simp; omega
    go_enter Try.func3, Try.ntmps3
    go_wp2_with fail
    refine (awake9_any w).mono ?_
    rintro e w1 ⟨rfl, b1⟩
    have z1 := b1.size
    go_wp2_with fail
    refine (w9_new _ _).mono ?_
    rintro e w2 ⟨t, rfl, h2⟩
    have H2 := Lib.hid h2
    clear h2
    go_wp2_with fail
    refine (rnew_any most w2).mono ?_
    rintro e w3 ⟨r0, rfl, ho3, b3⟩
    have hto := ho3.to
    have hz3 := b3.size
    have hp0 : PlayW w1 t w3.heap.size r0 (Sl.new most) (w3.alloc (.cells #[r0.va (Sl.new most), r0.vb (Sl.new most), r0.vc (Sl.new most), .int .i64 (Sl.new most).pl.length] 29 (0, 0))) := by
      have hb4 := (Below.refl w3.heap.size w3).alloc (Nat.le_refl _) (.cells #[r0.va (Sl.new most), r0.vb (Sl.new most), r0.vc (Sl.new most), .int .i64 (Sl.new most).pl.length] 29 (0, 0))
      refine ⟨H2.out.wx (b3.trans (hb4.mono hz3)) (fun b hb => ?_) (fun b hb => ?_), hto.1.keep hb4, hp_new rfl, Nat.le_trans H2.out.below.size hz3, fun e => by have := (hto.2 _ e).2; omega⟩
      · rcases hb with e | e
        · exact (hto.2 b e).1
        · omega
      · rcases hb with e | e
        · exact Nat.lt_of_lt_of_le (hto.2 b e).2 hb4.size
        · subst e; simp
    have HP0 := Lib.hid hp0
    clear hp0 hto ho3 b3 H2
    unfold Rw.va Rw.vb Rw.vc at *
    go_wp2_with fail
    go_loopw [10] (fun n wr => ∃ (k : Nat) (s : Sl) (r : Rw), k ≤ ls.length ∧ n = .int .i64 k ∧ PlayW w1 t w3.heap.size r s wr) (fun n _ => ls.length - (intOf n).toNat)
    case atStart => exact ⟨0, _, r0, by omega, rfl, HP0.out⟩
    case round =>
      obtain ⟨k, s, r, hk, rfl, hP⟩ := hrel
      have HP := Lib.hid hP
      have hB1 := b1.trans (hP.X.below.mono z1)
      generalize hq : w3.heap.size = q at HP
      clear hP HP0 hz3 hq
      by_cases hkl : k < ls.length
      · have t2 : decide ((k : Int) < (ls.length : Int)) = true := by simp; omega
        obtain ⟨g, off, rfl, hg, hc⟩ := HR.out (by intro e; rw [e] at hkl; cases hkl)
        have d0 : wr.cell? ⟨g, off + k * 3, none⟩ = some (.int .i64 ls[k].what) := (hB1.cell (p := ⟨g, off + k * 3, none⟩) hg).trans (hc k hkl 0 (by decide))
        have d1 : wr.cell? ⟨g, off + k * 3 + 1, none⟩ = some (.int .i64 ls[k].i) := (hB1.cell (p := ⟨g, off + k * 3 + 1, none⟩) hg).trans (hc k hkl 1 (by decide))
        have d2 : wr.cell? ⟨g, off + k * 3 + 2, none⟩ = some (.int .i64 ls[k].x) := (hB1.cell (p := ⟨g, off + k * 3 + 2, none⟩) hg).trans (hc k hkl 2 (by decide))
        generalize ls[k] = a at d0 d1 d2
        clear hc
        go_upto_region 10 with fail
        generalize hW : World.alloc _ _ = W
        have hPO : PlayO w1 t q wr.heap.size a r s W := by subst hW; exact HP.out.more
        have HPO := Lib.hid hPO
        have c0 : W.cell? ⟨wr.heap.size, 0, none⟩ = some (.int .i64 a.what) := by rw [cell_row hPO.O]; rfl
        have c1 : W.cell? ⟨wr.heap.size, 1, none⟩ = some (.int .i64 a.i) := by rw [cell_row hPO.O]; rfl
        have c2 : W.cell? ⟨wr.heap.size, 2, none⟩ = some (.int .i64 a.x) := by rw [cell_row hPO.O]; rfl
        generalize wr.heap.size = ob at HPO c0 c1 c2
        clear hW hPO HP d0 d1 d2 hB1
        go_upto_block 2 with fail
        go_cut [12, 13, 14, 15, 16, 17, 18, 19, 20, 21, 22] (fun _ _ _ _ _ _ _ _ _ _ _ wx => ∃ s' r', PlayO w1 t q ob a r' s' wx)
        case first =>
          by_cases hw0 : a.what = 0
          · have t3 : (a.what == 0) = true := by simp [hw0]
            clear hw0
            have c3 := wx_take HPO.out.X a.x
            have C3 := Lib.hid c3
            clear c3
            go_wp2_with fail
            refine C3.out.mono ?_
            rintro e w4 ⟨rfl, g1, g2⟩
            have hM := HPO.out.mid g1 g2
            have HM := Lib.hid hM
            obtain ⟨p0, p1, p2, p3, o0, o1, o2, pz, oz⟩ := hM.four
            clear g1 g2 hM c0 c1 c2
            go_wp2_with fail
            refine (rtake_any w4 r s HM.out.R HPO.out.X.w9.1 (fun b hb => HM.out.X.xlt b (.inl hb)) a.x).mono ?_
            rintro e w5 ⟨r', rfl, hR, hB, hb⟩
            have hF := HM.out.fin hR hB hb (.cells #[r'.va (s.take a.x), r'.vb (s.take a.x), r'.vc (s.take a.x), .int .i64 (s.take a.x).pl.length] 29 (0, 0))
            have y1 := (hb.block q pz).trans HM.out.Q
            obtain ⟨q0, q1, q2, q3, f0, f1, f2, f3, qz⟩ := Go.Proofs.Ytebgkoimphjagaa.four y1
            have HF := Lib.hid hF
            clear p0 p1 p2 p3 o0 o1 o2 oz hR hB hb hF y1 HM
            unfold Rw.v Rw.va Rw.vb Rw.vc at *
            go_wp2_with fail
            go_meet
            case rel => exact ⟨_, r', HF.out⟩
          · have t3 : (a.what == 0) = false := by simp [hw0]
            clear hw0
            by_cases hw1 : a.what = 1
            · have t4 : (a.what == 1) = true := by simp [hw1]
              clear hw1
              have c3 := wx_give HPO.out.X a.i
              have C3 := Lib.hid c3
              clear c3
              go_wp2_with fail
              refine C3.out.mono ?_
              rintro e w4 ⟨rfl, g1, g2⟩
              have hM := HPO.out.mid g1 g2
              have HM := Lib.hid hM
              obtain ⟨p0, p1, p2, p3, o0, o1, o2, pz, oz⟩ := hM.four
              clear g1 g2 hM c0 c1 c2
              go_wp2_with fail
              refine (rgive_any w4 r s HM.out.R HPO.out.X.w9.1 (fun b hb => HM.out.X.xlt b (.inl hb)) a.i).mono ?_
              rintro e w5 ⟨r', rfl, hR, hB, hb⟩
              have hF := HM.out.fin hR hB hb (.cells #[r'.va (s.give a.i), r'.vb (s.give a.i), r'.vc (s.give a.i), .int .i64 (s.give a.i).pl.length] 29 (0, 0))
              have y1 := (hb.block q pz).trans HM.out.Q
              obtain ⟨q0, q1, q2, q3, f0, f1, f2, f3, qz⟩ := Go.Proofs.Ytebgkoimphjagaa.four y1
              have HF := Lib.hid hF
              clear p0 p1 p2 p3 o0 o1 o2 oz hR hB hb hF y1 HM
              unfold Rw.v Rw.va Rw.vb Rw.vc at *
              go_wp2_with fail
              go_meet
              case rel => exact ⟨_, r', HF.out⟩
            · have t4 : (a.what == 1) = false := by simp [hw1]
              clear hw1
              have c3 := wx_swap HPO.out.X a.i a.x
              have C3 := Lib.hid c3
              clear c3
              go_wp2_with fail
              refine C3.out.mono ?_
              rintro e w4 ⟨rfl, g1, g2⟩
              have hM := HPO.out.mid g1 g2
              have HM := Lib.hid hM
              obtain ⟨p0, p1, p2, p3, o0, o1, o2, pz, oz⟩ := hM.four
              clear g1 g2 hM c0 c1 c2
              go_wp2_with fail
              refine (rswap_any w4 r s HM.out.R HPO.out.X.w9.1 (fun b hb => HM.out.X.xlt b (.inl hb)) a.i a.x).mono ?_
              rintro e w5 ⟨r', rfl, hR, hB, hb⟩
              have hF := HM.out.fin hR hB hb (.cells #[r'.va (s.swap a.i a.x), r'.vb (s.swap a.i a.x), r'.vc (s.swap a.i a.x), .int .i64 (s.swap a.i a.x).pl.length] 29 (0, 0))
              have y1 := (hb.block q pz).trans HM.out.Q
              obtain ⟨q0, q1, q2, q3, f0, f1, f2, f3, qz⟩ := Go.Proofs.Ytebgkoimphjagaa.four y1
              have HF := Lib.hid hF
              clear p0 p1 p2 p3 o0 o1 o2 oz hR hB hb hF y1 HM
              unfold Rw.v Rw.va Rw.vb Rw.vc at *
              go_wp2_with fail
              go_meet
              case rel => exact ⟨_, r', HF.out⟩
        case rest =>
          obtain ⟨s', r', hO⟩ := hcut
          have HO := Lib.hid hO
          obtain ⟨p0, p1, p2, p3, -, -, -, -, pz⟩ := Go.Proofs.Ytebgkoimphjagaa.four hO.Q
          have o1 : wc.cell? ⟨ob, 1, none⟩ = some (.int .i64 a.i) := by rw [cell_row hO.O]; rfl
          have c3 := fun W (hb : Below wc.heap.size wc W) (j : Int) => plsame (HO.out.keep hb).less j
          have C3 := Lib.hid c3
          clear hO HPO c0 c1 c2 c3
          unfold Rw.v Rw.va Rw.vb Rw.vc at *
          go_wp2_with fail
          refine (C3.out _ (Below.refl _ _) a.i).mono ?_
          rintro e w5 ⟨rfl, b5⟩
          have HO5 := Lib.hid (HO.out.keep b5)
          have q0 := (b5.cell (p := ⟨q, 0, none⟩) pz).trans p0
          have q1 := (b5.cell (p := ⟨q, 1, none⟩) pz).trans p1
          have q2 := (b5.cell (p := ⟨q, 2, none⟩) pz).trans p2
          have q3 := (b5.cell (p := ⟨q, 3, none⟩) pz).trans p3
          clear p0 p1 p2 p3 o1
          go_wp2_with fail
          refine (C3.out _ b5 i).mono ?_
          rintro e w6 ⟨rfl, b6⟩
          have HO6 := Lib.hid (HO5.out.keep b6).less
          clear b5 b6 q0 q1 q2 q3
          go_wp2
          go_roundw
          case rel => exact ⟨k + 1, s', r', by omega, by go_num, HO6.out⟩
          case measure => simp [intOf]; omega
      · have t2 : decide ((k : Int) < (ls.length : Int)) = false := by simp; omega
        obtain ⟨p0, p1, p2, p3, -, -, -, -, pz⟩ := Go.Proofs.Ytebgkoimphjagaa.four HP.out.Q
        have c3 := plsame HP.out i
        have C3 := Lib.hid c3
        clear c3
        unfold Rw.v Rw.va Rw.vb Rw.vc at *
        go_wp2_with fail
        refine C3.out.mono ?_
        rintro e w5 ⟨rfl, b5⟩
        have hB5 := b1.trans ((HP.out.keep b5).X.below.mono z1)
        clear b5 p0 p1 p2 p3
        go_wp2
        go_ret
        exact ⟨rfl, hB5⟩

end Go.Proofs.Ytebgkoimphjagaa
