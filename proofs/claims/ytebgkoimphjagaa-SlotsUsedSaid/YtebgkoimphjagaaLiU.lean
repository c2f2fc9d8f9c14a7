/-
  SlotsUsed returns true, and leaves all old memory as it was. Condition: the list lies where the argument says.
-/
import Derived.Test.YtebgkoimphjagaaSh
import Derived.Test.YtebgkoimphjagaaRowS
import Derived.Test.YtebgkoimphjagaaReg
import Derived.Deep.CutBlock
namespace Go.Proofs.Ytebgkoimphjagaa
open Go.RowKit
set_option maxRecDepth 100000

set_option maxHeartbeats 4000000 in
theorem used_law (most : Int) (A : Option Addr) (cap : Nat) (ls : List Ac9) (w : World) (hr : KA9.Rd w A ls) : Calls Try.prog 7 #[.int .i64 most, .slice A ls.length cap] w fun e w' => e = .returned (.bool true) ∧ Below w.heap.size w w' := by
  have HR := Lib.hid hr
  clear hr
  by_cases hlen : 100 < ls.length
  · have t0 : decide ((100 : Int) < (ls.length : Int)) = true := by simp; omega
    go_enter Try.func7, Try.ntmps7
    go_wp2_with fail
    refine (awake9_any _).mono ?_
    rintro e w1 ⟨rfl, hw1⟩
    go_wp2
    go_ret
    exact ⟨rfl, hw1⟩
  · have t0 : decide ((100 : Int) < (ls.length : Int)) = false := by simp; omega
    obtain ⟨M, hM, hM6⟩ : ∃ M : Nat, bits .and .i64 most 31 = (M : Int) ∧ M ≤ 31 := ⟨(most % 32).toNat, by rw [i64_and5]; omega, by omega⟩
    go_enter Try.func7, Try.ntmps7
    go_wp2_with fail
    refine (awake9_any w).mono ?_
    rintro e w1 ⟨rfl, b1⟩
    have z1 := b1.size
    go_wp2_with fail
    refine (w9_new _ _).mono ?_
    rintro e w2 ⟨t, rfl, h2⟩
    have hm2 : (Sl.new (M : Int)).most = M := by simp only [Sl.new]; omega
    have hl2 : (Sl.new (M : Int)).len = 0 := rfl
    have H2 := Lib.hid h2
    have HM2 := Lib.hid (And.intro hm2 hl2)
    clear h2 hm2 hl2
    generalize Sl.new (M : Int) = s0 at H2 HM2
    go_wp2_with fail
    go_loopw [7, 8] (fun c n wr => ∃ (k : Nat) (s : Sl), k ≤ ls.length ∧ n = .int .i64 k ∧ c = .int .i64 s.len ∧ s.most = M ∧ W9 w1 t s wr) (fun _ n _ => ls.length - (intOf n).toNat)
    case atStart => exact ⟨0, s0, by omega, rfl, by rw [HM2.out.2], HM2.out.1, H2.out⟩
    case round =>
      obtain ⟨k, s, hk, rfl, rfl, hm, hb⟩ := hrel
      have HK := Lib.hid hb
      have hln := hb.1.lenIs
      have hul := used_le s hb.1
      have hlb : 0 ≤ s.len ∧ s.len ≤ 1024 := by omega
      have HMO := Lib.hid hm
      clear hb hm hln hul H2 HM2
      by_cases hkl : k < ls.length
      · have t2 : decide ((k : Int) < (ls.length : Int)) = true := by simp; omega
        obtain ⟨g, off, rfl, hg, hc⟩ := HR.out (by intro e; rw [e] at hkl; cases hkl)
        go_wp2_with fail
        refine (w9_used HK.out).mono ?_
        rintro e w3 ⟨A3, c3, rfl, ho3, b3⟩
        have HK3 := Lib.hid (HK.out.wx (X' := fun b => Value.ownBlock (.slice A3 s.used.length c3) = some b) b3 (fun b hb => own_ge ho3 b hb) (fun b hb => (ho3.lt b hb).2))
        have HO3 := Lib.hid ho3
        have hB1 := b1.trans (HK3.out.below.mono z1)
        have hgz : g < w3.heap.size := Nat.lt_of_lt_of_le hg hB1.size
        have e0 : w.cell? ⟨g, off + k * 3, none⟩ = some (.int .i64 ls[k].what) := hc k hkl 0 (by decide)
        have e1 : w.cell? ⟨g, off + k * 3 + 1, none⟩ = some (.int .i64 ls[k].i) := hc k hkl 1 (by decide)
        have e2 : w.cell? ⟨g, off + k * 3 + 2, none⟩ = some (.int .i64 ls[k].x) := hc k hkl 2 (by decide)
        generalize ls[k] = a at e0 e1 e2
        have d0 := (hB1.cell (p := ⟨g, off + k * 3, none⟩) hg).trans e0
        have d1 := (hB1.cell (p := ⟨g, off + k * 3 + 1, none⟩) hg).trans e1
        have d2 := (hB1.cell (p := ⟨g, off + k * 3 + 2, none⟩) hg).trans e2
        have HE := Lib.hid (And.intro e1 e2)
        clear hc b3 ho3 HK e0 e1 e2
        go_upto_block 2 with fail
        go_cut [7, 10, 11, 12, 13, 14] (fun c _ _ _ _ _ wx => ∃ s', c = .int .i64 s'.len ∧ s'.most = M ∧ W9 w1 t s' wx)
        case first =>
          by_cases hw0 : a.what = 0
          · have t3 : (a.what == 0) = true := by simp [hw0]
            clear hw0
            have htl := sltake_len (s := s) a.x
            have c1 := w9_take HK3.out.w9 a.x
            cases htk : s.took
            · rw [htk] at c1 htl
              have C1 := Lib.hid c1
              have HT := Lib.hid htl
              clear c1 htk htl
              go_wp2_with fail
              refine C1.out.mono ?_
              rintro e w4 ⟨rfl, g1⟩
              have HN := Lib.hid g1
              clear g1
              go_wp2_with fail
              go_meet
              case rel => exact ⟨s.take a.x, by rw [HT.out]; simp, by rw [take_most]; exact HMO.out, HN.out⟩
            · rw [htk] at c1 htl
              have C1 := Lib.hid c1
              have HT := Lib.hid htl
              clear c1 htk htl
              go_wp2_with fail
              refine C1.out.mono ?_
              rintro e w4 ⟨rfl, g1⟩
              have HN := Lib.hid g1
              clear g1
              go_wp2_with fail
              go_meet
              case rel => exact ⟨s.take a.x, by rw [HT.out]; simp, by rw [take_most]; exact HMO.out, HN.out⟩
          · have t3 : (a.what == 0) = false := by simp [hw0]
            clear hw0
            by_cases hw1 : a.what = 1
            · have t4 : (a.what == 1) = true := by simp [hw1]
              clear hw1
              have htl := give_len (s := s) a.i
              have c1 := w9_give HK3.out.w9 a.i
              cases htk : s.has a.i
              · rw [htk] at c1 htl
                have C1 := Lib.hid c1
                have HT := Lib.hid htl
                clear c1 htk htl
                go_wp2_with fail
                refine C1.out.mono ?_
                rintro e w4 ⟨rfl, g1⟩
                have HN := Lib.hid g1
                clear g1
                go_wp2_with fail
                go_meet
                case rel => exact ⟨s.give a.i, by rw [HT.out]; simp, by rw [give_most]; exact HMO.out, HN.out⟩
              · rw [htk] at c1 htl
                have C1 := Lib.hid c1
                have HT := Lib.hid htl
                clear c1 htk htl
                go_wp2_with fail
                refine C1.out.mono ?_
                rintro e w4 ⟨rfl, g1⟩
                have HN := Lib.hid g1
                clear g1
                go_wp2_with fail
                go_meet
                case rel => exact ⟨s.give a.i, by rw [HT.out]; simp, by rw [give_most]; exact HMO.out, HN.out⟩
            · have t4 : (a.what == 1) = false := by simp [hw1]
              clear hw1
              obtain ⟨W, rfl⟩ : ∃ W, W = w3 := ⟨_, rfl⟩
              have L1 := fun x : Later W.heap.size W => (x.cell (p := ⟨g, off + k * 3 + 1, none⟩) hgz).trans d1
              have L2 := fun x : Later W.heap.size W => (x.cell (p := ⟨g, off + k * 3 + 2, none⟩) hgz).trans d2
              have hul := used_le s HK3.out.1
              go_wp2_with fail
              refine region_tail 11 W.heap.size (by kernel_rfl) (by kernel_rfl) ?_
              simp only [List.take_succ_cons, List.take_zero, List.drop_succ_cons, List.drop_zero]
              repeat (go_big_quiet_step (fail))
              refine wpQuiet_nil ?_
              intro x
              have HK4 := Lib.hid (HK3.out.keep x.below)
              have HO4 := Lib.hid (own_block HO3.out (fun b _ hl => x.below.block b hl))
              clear L1 L2 d0 d1 d2 hgz hB1 HK3 HO3
              generalize x.at = w4 at *
              clear x
              go_wp2_with fail
              refine (wx_swap HK4.out a.i a.x).mono ?_
              rintro e w5 ⟨rfl, g1, g2⟩
              have HK5 := Lib.hid g1
              have HO5 := Lib.hid (own_block HO4.out (fun b hb _ => g2 b hb))
              have hB5 := b1.trans (g1.below.mono z1)
              have d1 := (hB5.cell (p := ⟨g, off + k * 3 + 1, none⟩) hg).trans HE.out.1
              have d2 := (hB5.cell (p := ⟨g, off + k * 3 + 2, none⟩) hg).trans HE.out.2
              have c1 := w9_at g1.w9 a.i
              rw [swap_has, swap_at] at c1
              have hus := swap_used (s := s) a.i a.x
              have HU := Lib.hid hus
              have hsl := swap_len (s := s) a.i a.x
              have HL := Lib.hid hsl
              clear g1 g2 HK4 HO4 hus hsl
              cases hh : s.has a.i
              · rw [hh] at c1
                have C1 : Hid (Calls Try.prog 18 #[.pointer (some ⟨t, 0, none⟩), .int .i64 a.i] w5 fun e w' => e = .returned (.tuple #[.int .i64 0, .bool false]) ∧ w5 = w') := Lib.hid c1
                clear c1 hh
                go_wp2_with fail
                refine C1.out.mono ?_
                rintro e w6 ⟨rfl, rfl⟩
                go_wp2_with fail
                refine (w9_used HK5.out.w9).mono ?_
                rw [HU.out]
                rintro e w7 ⟨A7, c7, rfl, ho7, b7⟩
                have HK7 := Lib.hid (HK5.out.w9.keep b7)
                have HO7 := Lib.hid (NatsPost.rd ho7).1
                have HP7 := Lib.hid ((NatsPost.rd HO5.out).1.kept b7)
                clear ho7 b7
                go_wp2_with fail
                refine (ints9_any s.used A3 A7 c3 c7 _ HP7.out HO7.out (by omega)).mono ?_
                rintro e w8 ⟨rfl, b8⟩
                have HK8 := Lib.hid (HK7.out.keep b8)
                clear b8
                go_wp2_with fail
                go_meet
                case rel => exact ⟨s.swap a.i a.x, by rw [HL.out], by rw [swap_most]; exact HMO.out, HK8.out⟩
              · rw [hh] at c1
                have C1 : Hid (Calls Try.prog 18 #[.pointer (some ⟨t, 0, none⟩), .int .i64 a.i] w5 fun e w' => e = .returned (.tuple #[.int .i64 a.x, .bool true]) ∧ w5 = w') := Lib.hid c1
                clear c1 hh
                go_wp2_with fail
                refine C1.out.mono ?_
                rintro e w6 ⟨rfl, rfl⟩
                go_wp2_with fail
                refine (w9_used HK5.out.w9).mono ?_
                rw [HU.out]
                rintro e w7 ⟨A7, c7, rfl, ho7, b7⟩
                have HK7 := Lib.hid (HK5.out.w9.keep b7)
                have HO7 := Lib.hid (NatsPost.rd ho7).1
                have HP7 := Lib.hid ((NatsPost.rd HO5.out).1.kept b7)
                clear ho7 b7
                go_wp2_with fail
                refine (ints9_any s.used A3 A7 c3 c7 _ HP7.out HO7.out (by omega)).mono ?_
                rintro e w8 ⟨rfl, b8⟩
                have HK8 := Lib.hid (HK7.out.keep b8)
                clear b8
                go_wp2_with fail
                go_meet
                case rel => exact ⟨s.swap a.i a.x, by rw [HL.out], by rw [swap_most]; exact HMO.out, HK8.out⟩
        case rest =>
          obtain ⟨s', rfl, hm', h'⟩ := hcut
          have HM' := Lib.hid hm'
          have HK' := Lib.hid h'
          clear hm' h' HK3 HO3 d0 d1 d2 hB1 hlb
          have hln := HK'.out.1.lenIs
          have hul := used_le s' HK'.out.1
          have hpl := HK'.out.1.pl
          have hcn := HK'.out.1.cnt
          rw [HM'.out] at hpl
          have hlm : s'.len ≤ M := by omega
          clear hpl hcn
          go_wp2_with fail
          refine (w9_used HK'.out).mono ?_
          rintro e w4 ⟨A4, c4, rfl, ho4, b4⟩
          have HK4 := Lib.hid (HK'.out.keep b4)
          have hrd := NatsPost.rd ho4
          have HO4 := Lib.hid hrd.1
          clear ho4 b4 hrd HK'
          go_wp2_with fail
          go_loopw [16] (fun n wx => ∃ i : Nat, i ≤ s'.used.length ∧ n = .int .i64 i ∧ Below w4.heap.size w4 wx) (fun n _ => s'.used.length - (intOf n).toNat)
          case atStart => exact ⟨0, by omega, rfl, Below.refl _ _⟩
          case round =>
            obtain ⟨i, hi, rfl, hBx⟩ := hrel
            have HK5 := Lib.hid (HK4.out.keep hBx)
            have HO5 := Lib.hid (HO4.out.kept hBx)
            by_cases hil : i < s'.used.length
            · have t4 : decide ((i : Int) < (s'.used.length : Int)) = true := by simp; omega
              obtain ⟨gu, ou, hA4, hgu, cu⟩ := KN_rd HO5.out hil
              have hat := used_is hil
              have c1 := w9_at HK5.out (s'.used[i] : Int)
              rw [has_nat, hat] at c1
              have C1 := Lib.hid c1
              clear c1 hat
              rcases Nat.eq_zero_or_pos i with h0 | h0
              · subst h0
                generalize s'.used[0] = y at cu C1
                subst hA4
                simp only [Nat.add_zero] at cu
                clear HO4 HO5
                go_wp2_with fail
                refine C1.out.mono ?_
                rintro e w5 ⟨rfl, rfl⟩
                go_wp2_with fail
                go_quiet (fail)
                go_wp2_with fail
                refine ⟨⟨1, by omega, by go_num, below_drewN hBx _⟩, by simp [intOf]; omega⟩
              · obtain ⟨j, rfl⟩ : ∃ j, i = j + 1 := ⟨i - 1, by omega⟩
                obtain ⟨gu', ou', hA4', hgu', cv⟩ := KN_rd HO5.out (show j < s'.used.length by omega)
                have hup := used_up hil (Nat.lt_succ_self j)
                generalize s'.used[j + 1] = y at cu C1 hup
                generalize s'.used[j] = z at cv hup
                subst hA4
                simp only [Option.some.injEq, Addr.mk.injEq, and_true] at hA4'
                obtain ⟨rfl, rfl⟩ := hA4'
                have t5 : decide ((0 : Int) < ((j + 1 : Nat) : Int)) = true := decide_eq_true (by omega)
                have t6 : decide (y ≤ z) = false := decide_eq_false (by omega)
                have cu' : wr.cell? ⟨gu, ou + (j + 1), none⟩ = some (.int .i64 (y : Int)) := cu
                clear HO4 HO5 cu hup
                go_wp2_with fail
                refine C1.out.mono ?_
                rintro e w5 ⟨rfl, rfl⟩
                go_wp2_with fail
                go_quiet (fail)
                go_wp2_with fail
                refine ⟨⟨j + 1 + 1, by omega, by go_num, below_drewN hBx _⟩, by simp [intOf]; omega⟩
            · have hie : i = s'.used.length := by omega
              subst hie
              have t4 : decide ((s'.used.length : Int) < (s'.used.length : Int)) = false := by simp
              have t5 : ((s'.used.length : Int) != s'.len) = false := by simp; omega
              have t6 : (s'.len != s'.len) = false := by simp
              have t7 : decide ((M : Int) < s'.len) = false := by simp; omega
              go_wp2_with fail
              refine (w9_len HK5.out).mono ?_
              rintro e w6 ⟨rfl, b6⟩
              have HK6 := Lib.hid (HK5.out.keep b6)
              clear b6
              go_wp2
              go_roundw
              case rel => exact ⟨k + 1, s', by omega, by go_num, by rw [hln], HM'.out, HK6.out⟩
              case measure => simp [intOf]; omega
      · have t2 : decide ((k : Int) < (ls.length : Int)) = false := by simp; omega
        have hB1 := b1.trans (HK.out.below.mono z1)
        go_wp2
        go_ret
        exact ⟨rfl, hB1⟩

end Go.Proofs.Ytebgkoimphjagaa
