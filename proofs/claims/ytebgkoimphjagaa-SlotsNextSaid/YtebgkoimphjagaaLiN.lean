/-
  SlotsNext returns true, and leaves all old memory as it was. No condition.
-/
import Derived.Test.YtebgkoimphjagaaSf
namespace Go.Proofs.Ytebgkoimphjagaa
open Go.RowKit
set_option maxRecDepth 100000

/-- Of m places the first j were taken, one behind the other. -/
def stN (m j : Nat) : Sl := ⟨m, (List.range j).map fun i : Nat => ⟨(i : Int), true⟩, []⟩
theorem stN_zero (m : Nat) (h : m ≤ 1024) : Sl.new m = stN m 0 := by
  unfold Sl.new stN
  congr 1
  omega
theorem stN_took (m j : Nat) (h : j < m) : (stN m j).tookI = j ∧ (stN m j).took = true ∧ (stN m j).take j = stN m (j + 1) := by
  have e : (stN m j).nxt = some j := by
    unfold Sl.nxt stN
    simp
    omega
  refine ⟨by unfold Sl.tookI; rw [e]; rfl, by unfold Sl.took; rw [e]; rfl, ?_⟩
  unfold Sl.take
  rw [e]
  unfold Sl.set Sl.out stN
  have h2 : ¬ j = m := by omega
  simp [h2, List.range_succ, List.map_append]
theorem stN_has (m k i : Nat) (h : i < k) : (stN m k).has i = true := by
  rw [has_nat, atN_in _ _ (by simp [stN, h])]
  simp [stN]
theorem stN_len (m k : Nat) : (stN m k).len = k := by simp [Sl.len, stN]
/-- What is given back is taken next. -/
theorem give_nxt {s : Sl} {i : Nat} (h : s.has i = true) : (s.give i).nxt = some i := by
  unfold Sl.give Sl.nxt
  rw [if_pos h]
  simp
/-- How many places want a thing. -/
def lackW (m t : Nat) (w : World) : Nat := match w.cell? ⟨t, 1, none⟩, w.cell? ⟨t, 2, none⟩ with
  | some (.slice _ a _), some (.slice _ b _) => m - (a - b)
  | _, _ => 0
theorem lack_eq {w0 wr : World} {t m : Nat} {s : Sl} (h : W9 w0 t s wr) : (lackW m t wr : Int) = max ((m : Int) - s.len) 0 := by
  obtain ⟨hk, S, ⟨vP, vF, rfl, h1⟩, -, -⟩ := h
  obtain ⟨-, c1, c2, -⟩ := h1.head
  obtain ⟨⟨A, c, rfl, -⟩, B, d, rfl, -⟩ := h1.vals
  have := hk.frLe
  unfold lackW Sl.len
  rw [c1, c2]
  simp only
  omega

set_option maxHeartbeats 2000000 in
theorem next_law (most n i : Int) (w : World) : Calls Try.prog 6 #[.int .i64 most, .int .i64 n, .int .i64 i] w fun e w' => e = .returned (.bool true) ∧ Below w.heap.size w w' := by
  obtain ⟨M, hM, hM6⟩ : ∃ M : Nat, bits .and .i64 most 63 = (M : Int) ∧ M ≤ 63 := ⟨(most % 64).toNat, by rw [i64_and63]; omega, by omega⟩
  obtain ⟨N, hN, hN6⟩ : ∃ N : Nat, bits .and .i64 n 65535 = (N : Int) ∧ N ≤ 65535 := ⟨(n % 65536).toNat, by rw [i64_and16]; omega, by omega⟩
  obtain ⟨I, hI, hI6⟩ : ∃ I : Nat, bits .and .i64 i 65535 = (I : Int) ∧ I ≤ 65535 := ⟨(i % 65536).toNat, by rw [i64_and16]; omega, by omega⟩
  go_enter Try.func6, Try.ntmps6
  go_wp2_with fail
  refine (awake9_any w).mono ?_
  rintro e w1 ⟨rfl, b1⟩
  obtain ⟨K, hK, hKm⟩ : ∃ K : Nat, N % (1 + M) = K ∧ K ≤ M := ⟨_, rfl, by have := Nat.mod_lt N (show 0 < 1 + M by omega); omega⟩
  have hN2 : ((N : Int)).tmod (1 + (M : Int)) = (K : Int) := by rw [← hK, show (1 + (M : Int)) = ((1 + M : Nat) : Int) from by omega, ← Int.ofNat_tmod]
  obtain ⟨J, hJ, hJk⟩ : ∃ J : Nat, I % (1 + K) = J ∧ J < 1 + K := ⟨_, rfl, Nat.mod_lt I (by omega)⟩
  have hI2 : ((I : Int)).tmod (1 + (K : Int)) = (J : Int) := by rw [← hJ, show (1 + (K : Int)) = ((1 + K : Nat) : Int) from by omega, ← Int.ofNat_tmod]
  clear hK hJ
  go_wp2_with fail
  refine (w9_new _ _).mono ?_
  rintro e w2 ⟨t, rfl, h2⟩
  have e2 : Sl.new (1 + (M : Int)) = stN (1 + M) 0 := by rw [← stN_zero (1 + M) (by omega)]; congr 1
  rw [e2] at h2
  have H2 := Lib.hid h2
  have z1 := b1.size
  clear h2 e2
  go_wp2_with fail
  go_loopw [11] (fun n wr => ∃ j : Nat, j ≤ 1 + K ∧ n = .int .i64 j ∧ W9 w1 t (stN (1 + M) j) wr) (fun n _ => 1 + K - (intOf n).toNat)
  case atStart => exact ⟨0, by omega, rfl, H2.out⟩
  case round =>
    obtain ⟨j, hj, rfl, h3⟩ := hrel
    have H3 := Lib.hid h3
    clear h3 H2
    by_cases hlt : j < 1 + K
    · have t1 : decide ((j : Int) < 1 + (K : Int)) = true := by simp; omega
      obtain ⟨q1, q2, q3⟩ := stN_took (1 + M) j (by omega)
      have c1 := w9_take H3.out j
      rw [q1, q2, q3] at c1
      have C1 := Lib.hid c1
      clear c1 q1 q2 q3
      go_wp2_with fail
      refine C1.out.mono ?_
      rintro e w4 ⟨rfl, h4⟩
      have H4 := Lib.hid h4
      clear h4
      go_wp2
      go_roundw
      case rel => exact ⟨j + 1, by omega, by go_num, H4.out⟩
      case measure => simp [intOf]; omega
    · have hj1 : j = 1 + K := by omega
      subst hj1
      have t1 : decide (((1 + K : Nat) : Int) < 1 + (K : Int)) = false := by simp
      have hh := stN_has (1 + M) (1 + K) J hJk
      have c1 := w9_give H3.out J
      rw [hh] at c1
      have C1 := Lib.hid c1
      have hx := give_nxt hh
      have hok := H3.out.1
      have hat := take_atN (give_ok hok J) hx 99
      have hq1 : ((stN (1 + M) (1 + K)).give J).tookI = J := by unfold Sl.tookI; rw [hx]; rfl
      have hq2 : ((stN (1 + M) (1 + K)).give J).took = true := by unfold Sl.took; rw [hx]; rfl
      have hq3 : (((stN (1 + M) (1 + K)).give J).take 99).has J = true := by rw [has_nat, hat, if_pos rfl]
      have hq4 : (((stN (1 + M) (1 + K)).give J).take 99).at J = 99 := by rw [at_nat, hat, if_pos rfl]; rfl
      have hq5 : (((stN (1 + M) (1 + K)).give J).take 99).most = 1 + M := by rw [take_most, give_most]; rfl
      generalize hs2 : (stN (1 + M) (1 + K)).give J = s2 at C1 hx hat hq1 hq2 hq3 hq4 hq5
      generalize hs3 : s2.take 99 = s3 at hq3 hq4 hq5
      have HQ1 := Lib.hid (And.intro hq1 hq2)
      have HQ2 := Lib.hid (And.intro hq4 hq3)
      have HQ3 := Lib.hid hq5
      clear c1 hh hx hat hq1 hq2 hq3 hq4 hq5 hs2 hok H3
      go_wp2_with fail
      refine C1.out.mono ?_
      rintro e w4 ⟨rfl, h4⟩
      have c2 := w9_take h4 99
      rw [HQ1.out.1, HQ1.out.2, hs3] at c2
      have C2 := Lib.hid c2
      clear c2 h4 hs3
      go_wp2_with fail
      refine C2.out.mono ?_
      rintro e w5 ⟨rfl, h5⟩
      have c3 := w9_at h5 J
      rw [HQ2.out.1, HQ2.out.2] at c3
      have C3 := Lib.hid c3
      have H5 := Lib.hid h5
      clear c3 h5
      go_wp2_with fail
      refine C3.out.mono ?_
      rintro e w6 ⟨rfl, rfl⟩
      go_wp2_with fail
      go_loopw [] (fun wr => ∃ s, W9 w1 t s wr ∧ s.most = 1 + M) (fun wr => lackW (1 + M) t wr)
      case atStart => exact ⟨s3, H5.out, HQ3.out⟩
      case round =>
        obtain ⟨s, h6, hm⟩ := hrel
        have H6 := Lib.hid h6
        have hl := lack_eq (m := 1 + M) h6
        have htk := took_iff h6.1
        have hle := h6.1.pl
        have hfr := h6.1.frLe
        have hlb : s.len ≤ 1 + M ∧ 0 ≤ s.len := by unfold Sl.len; omega
        rw [hm] at htk
        have HM := Lib.hid hm
        clear h6 hm H5
        by_cases hlt2 : s.len < 1 + (M : Int)
        · have t2 : decide (s.len < 1 + (M : Int)) = true := by simp; omega
          have htt : s.took = true := htk.2 (by omega)
          go_wp2_with fail
          refine (w9_len H6.out).mono ?_
          rintro e w7 ⟨rfl, b7⟩
          have c5 := w9_take (H6.out.keep b7) 1
          rw [htt] at c5
          have C5 := Lib.hid c5
          have HL := Lib.hid hl
          clear c5 b7 hl
          go_wp2_with fail
          refine C5.out.mono ?_
          rintro e w8 ⟨rfl, h8⟩
          have hl8 := lack_eq (m := 1 + M) h8
          have hl9 := sltake_len (s := s) 1
          rw [htt, if_pos rfl] at hl9
          have H8 := Lib.hid h8
          have HL8 := Lib.hid hl8
          have HL9 := Lib.hid hl9
          clear h8 hl8 hl9
          go_wp2
          go_roundw
          case rel => exact ⟨s.take 1, H8.out, by rw [take_most]; exact HM.out⟩
          case measure =>
            have l1 := HL.out
            have l2 := HL8.out
            have l3 := HL9.out
            omega
        · have t2 : decide (s.len < 1 + (M : Int)) = false := by simp; omega
          have hln : s.len = 1 + (M : Int) := by omega
          have htt : s.took = false := by
            cases h9 : s.took
            · rfl
            · have := htk.1 h9
              omega
          go_wp2_with fail
          refine (w9_len H6.out).mono ?_
          rintro e w7 ⟨rfl, b7⟩
          have c5 := w9_take (H6.out.keep b7) 2
          have e5 : s.take 2 = s := take_none (by unfold Sl.took at htt; simpa using htt) 2
          rw [htt, e5] at c5
          have hu := H6.out.1.lenIs
          rw [hln] at hu
          have C5 := Lib.hid c5
          clear c5 b7 hl
          go_wp2_with fail
          refine C5.out.mono ?_
          rintro e w8 ⟨rfl, h8⟩
          have H8 := Lib.hid h8
          clear h8
          go_wp2_with fail
          refine (w9_used H8.out).mono ?_
          rintro e w9 ⟨A9, c9, rfl, ho, b9⟩
          have t3 : ((s.used.length : Int) == 1 + (M : Int)) = true := by rw [beq_iff_eq]; omega
          have h9 := (H8.out.keep b9).below
          have H9 := Lib.hid h9
          clear ho b9 h9
          go_wp2
          go_ret
          exact ⟨rfl, b1.trans (H9.out.mono z1)⟩

end Go.Proofs.Ytebgkoimphjagaa
