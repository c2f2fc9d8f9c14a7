/-
  VictimLight: the law returns true. Condition: the entries lie where the argument says.
-/
import Derived.Test.YtmmggalcebepeaaNv
namespace Go.Proofs.Ytmmggalcebepeaa
open Go.RowKit
set_option maxRecDepth 100000

set_option maxHeartbeats 4000000 in
theorem victimLight_law (A : Option Addr) (c : Nat) (l : List Ent) (w : World) (h : KE.Rd w A l ∧ (A = none → l = [] ∧ c = 0)) :
    Calls Try.prog 4 #[.slice A l.length c] w fun e w' => e = .returned (.bool true) ∧ Below w.heap.size w w' := by
  have HR := Lib.hid h.1
  clear h
  by_cases hl : l.length ≤ 200
  · have hl' : ¬ (200 : Int) < (l.length : Int) := by omega
    obtain ⟨n, hn⟩ : ∃ n, n = l.length := ⟨_, rfl⟩
    have HN := Lib.hid hn
    have cO := Lib.hid (fun (W : World) (hb : Below w.heap.size w W) => ours12_any A c l W (HR.out.keep hb (Nat.le_refl _)) (by omega))
    rw [← hn] at hl' hl
    rw [← hn]
    rw [← hn] at cO
    clear hn
    go_enter Try.func4, Try.ntmps4
    go_wp2_with fail
    refine (awake12_any _).mono ?_
    rintro e w1 ⟨rfl, h1⟩
    have B1 := Lib.hid h1
    clear h1
    go_wp2_with fail
    refine (cO.out w1 B1.out).mono ?_
    rintro e w2 hq
    obtain ⟨A2, c2, rfl, ho2, hb2⟩ := hq.eo
    rw [← HN.out] at ho2 ⊢
    obtain ⟨B0, hB0⟩ : ∃ B0, B0 = w.heap.size := ⟨_, rfl⟩
    have O2 : Hid (EO w2 B0 A2 n c2 l) := Lib.hid ⟨ho2.1, own_low ho2.2 (by rw [hB0]; exact B1.out.size)⟩
    have B2 : Hid (Below B0 w w2) := Lib.hid (by rw [hB0]; exact B1.out.trans (hb2.mono B1.out.size))
    have HB0 := Lib.hid hB0
    clear hq ho2 hb2 cO hB0
    go_wp2_with fail
    go_loopw [5] (fun i wr => ∃ k : Nat, i = .int .i64 k ∧ k ≤ n ∧ EO wr B0 A2 n c2 (trn numF l k) ∧ Below B0 w wr) (fun i _ => n - (RowKit.intOf i).toNat)
    case atStart => exact ⟨0, rfl, Nat.zero_le _, by rw [trn_zero]; exact O2.out, B2.out⟩
    case round =>
      clear O2 B2
      obtain ⟨k, rfl, hk, ho, hB⟩ := hrel
      have O2 := Lib.hid ho
      have B2 := Lib.hid hB
      clear ho hB
      obtain ⟨W, rfl⟩ : ∃ W, W = wr := ⟨_, rfl⟩
      by_cases hlt : k < n
      · have hlt' : (k : Int) < (n : Int) := by omega
        have hk9 : (k : Int) + 1 ≤ 1000000 := by omega
        obtain ⟨g, rfl, gB, gz⟩ := O2.out.addr (by omega)
        have ik := fun V => idx_ent g n c2 k hlt V
        obtain ⟨k0, k1, kf0, kf1⟩ := O2.out.cells k hlt
        have ON := Lib.hid (O2.out.setI k hlt (k : Int))
        have OS : Hid ((trn numF l k).set k ⟨(k : Int), scL (trn numF l k) k⟩ = trn numF l (k + 1)) := Lib.hid (num_step l k (by rw [← HN.out]; exact hlt))
        have BN := Lib.hid (B2.out.setCell (p := ⟨g, k * 2, none⟩) gB (.int .i64 (k : Int)))
        have HLT := Lib.hid hlt
        generalize nuL (trn numF l k) k = x0 at *
        clear O2 B2 k1 kf1
        go_wp2
        go_roundw
        case rel => exact ⟨k + 1, by go_num, HLT.out, by rw [← OS.out]; exact ON.out, BN.out⟩
        case measure =>
          have := HLT.out
          simp [RowKit.intOf]
          omega
      · have hlt' : ¬ (k : Int) < (n : Int) := by omega
        have hkn : k = n := by omega
        have O3 : Hid (EO W B0 A2 n c2 (idxL l)) := Lib.hid (by
          have h1 := O2.out
          rw [hkn, HN.out, num_end] at h1
          rw [HN.out]
          exact h1)
        obtain ⟨r3, l3, -⟩ := O3.out.rd
        have cC := choose12_any 1 A2 c2 (idxL l) W r3 (by rw [idxL_len, ← HN.out]; exact l3) (by rw [idxL_len, ← HN.out]; omega)
        rw [idxL_len, ← HN.out] at cC
        have CC := Lib.hid cC
        clear r3 l3 cC hkn O2
        go_wp2_with fail
        refine CC.out.mono ?_
        rintro e w3 ⟨rfl, h3⟩
        have O4 := Lib.hid (O3.out.keep h3)
        have B4 : Hid (Below w.heap.size w w3) := Lib.hid (by rw [← HB0.out]; exact B2.out.trans (h3.mono (by rw [HB0.out]; exact B2.out.size)))
        clear h3 O3 B2
        by_cases hn0 : n = 0
        · have hd : decide (0 < n) = false := by simp; omega
          have hn1 : ((n : Int) == 0) = true := by simp; omega
          rw [hd]
          clear CC
          go_wp2
          go_ret
          exact ⟨rfl, B4.out⟩
        · have hd : decide (0 < n) = true := by simp; omega
          obtain ⟨p, hp⟩ : ∃ p, p = whr 1 (idxL l) := ⟨_, rfl⟩
          have hpn : p < n := by rw [hp]; have := whr_lt 1 (idxL l) (by rw [idxL_len, ← HN.out]; omega); rw [idxL_len, ← HN.out] at this; exact this
          have hch : chI 1 (idxL l) = (p : Int) := by
            unfold chI
            rw [if_neg (by rw [idxL_len, ← HN.out]; exact hn0), ← hp, idxL_nu l p (by rw [← HN.out]; exact hpn)]
          have HLT : Hid ((∀ j, j < n → scL (idxL l) p ≤ scL (idxL l) j) ∧ (∀ j, p < j → j < n → scL (idxL l) p < scL (idxL l) j)) := Lib.hid (by
            have h1 := whr_light (idxL l) (by rw [idxL_len, ← HN.out]; omega)
            rw [idxL_len, ← HN.out, ← hp] at h1
            exact h1)
          rw [hd, hch]
          have hp0 : ¬ (p : Int) < 0 := by omega
          have hp1 : ¬ (n : Int) ≤ (p : Int) := by omega
          have hp2 : decide (n ≤ p) = false := by simp; omega
          clear CC hp hch
          go_wp2_with fail
          go_loopw [8] (fun i wr => ∃ k : Nat, i = .int .i64 k ∧ k ≤ n ∧ EO wr B0 A2 n c2 (idxL l) ∧ Below w.heap.size w wr) (fun i _ => n - (RowKit.intOf i).toNat)
          case atStart => exact ⟨0, rfl, Nat.zero_le _, O4.out, B4.out⟩
          case round =>
            clear O4 B4
            obtain ⟨k, rfl, hk, ho, hB⟩ := hrel
            have O4 := Lib.hid ho
            have B4 := Lib.hid hB
            have z4 := hB.size
            clear ho hB
            obtain ⟨W, rfl⟩ : ∃ W, W = wr := ⟨_, rfl⟩
            by_cases hlt : k < n
            · have hlt' : (k : Int) < (n : Int) := by omega
              have hk9 : (k : Int) + 1 ≤ 1000000 := by omega
              have HKN := Lib.hid hlt
              obtain ⟨g, rfl, gB, gz⟩ := O4.out.addr (by omega)
              have ik := fun V => idx_ent g n c2 k hlt V
              have ip := fun V => idx_ent g n c2 p hpn V
              obtain ⟨-, k1, -, -⟩ := O4.out.cells k hlt
              obtain ⟨-, p1, -, -⟩ := O4.out.cells p hpn
              have x1 := HLT.out.1 k hlt
              have x2 := fun h => HLT.out.2 k h hlt
              generalize scL (idxL l) k = sk at k1 x1 x2
              generalize scL (idxL l) p = sp at p1 x1 x2
              have K1 := fun x : Later W.heap.size W => (x.cell (p := ⟨g, k * 2 + 1, none⟩) gz).trans k1
              have P1 := fun x : Later W.heap.size W => (x.cell (p := ⟨g, p * 2 + 1, none⟩) gz).trans p1
              have g1 : decide (sk < sp) = false := by simp; omega
              by_cases hsp : sk = sp
              · have g2 : (sk == sp) = true := by simp [hsp]
                have g3 : decide ((k : Int) > (p : Int)) = false := by
                  simp
                  rcases Nat.lt_or_ge p k with q | q
                  · have := x2 q
                    omega
                  · omega
                have g4 : decide (p < k) = false := by
                  have := of_decide_eq_false g3
                  simp
                  omega
                clear k1 p1 x1 x2 hsp
                go_wp2_with fail
                refine region_later W.heap.size (by kernel_rfl) (by kernel_rfl) ?_
                repeat (go_big_quiet_step (fail))
                refine wpQuiet_nil ?_
                intro x2
                have b2 := x2.below
                generalize x2.at = w2 at *
                clear x2
                clear K1 P1
                go_wp2
                go_roundw
                case rel => exact ⟨k + 1, by go_num, HKN.out, O4.out.keep b2, B4.out.trans (b2.mono z4)⟩
                case measure =>
                  have := HKN.out
                  simp [RowKit.intOf]
                  omega
              · have g2 : (sk == sp) = false := by simp [hsp]
                clear k1 p1 x1 x2 hsp
                go_wp2_with fail
                refine region_later W.heap.size (by kernel_rfl) (by kernel_rfl) ?_
                repeat (go_big_quiet_step (fail))
                refine wpQuiet_nil ?_
                intro x2
                have b2 := x2.below
                generalize x2.at = w2 at *
                clear x2
                clear K1 P1
                go_wp2
                go_roundw
                case rel => exact ⟨k + 1, by go_num, HKN.out, O4.out.keep b2, B4.out.trans (b2.mono z4)⟩
                case measure =>
                  have := HKN.out
                  simp [RowKit.intOf]
                  omega
            · have hlt' : ¬ (k : Int) < (n : Int) := by omega
              go_wp2
              go_ret
              exact ⟨rfl, B4.out⟩
  · have hl' : (200 : Int) < (l.length : Int) := by omega
    go_enter Try.func4, Try.ntmps4
    go_wp2_with fail
    refine (awake12_any _).mono ?_
    rintro e w1 ⟨rfl, h1⟩
    go_wp2
    go_ret
    exact ⟨rfl, h1⟩

end Go.Proofs.Ytmmggalcebepeaa
