/-
  VictimRank: the law returns true. Condition: the entries lie where the argument says.
-/
import Derived.Test.YtmmggalcebepeaaNv
namespace Go.Proofs.Ytmmggalcebepeaa
open Go.RowKit
set_option maxRecDepth 100000

theorem idx_intc (q n c k : Nat) (h : k < n) (V : World) : (Instr.indexAt 30 (.slice (some ⟨q, 0, none⟩) n c) (.int .i64 (k : Int))).run Try.prog V = .ok (.pointer (some ⟨q, k, none⟩)) V := by
  have h0 : (0 : Int) ≤ (k : Int) := by omega
  have h1 : (k : Int) < (n : Int) := by omega
  go_simp
theorem idx_bool (q n c k : Nat) (h : k < n) (V : World) : (Instr.indexAt 37 (.slice (some ⟨q, 0, none⟩) n c) (.int .i64 (k : Int))).run Try.prog V = .ok (.pointer (some ⟨q, k, none⟩)) V := by
  have h0 : (0 : Int) ≤ (k : Int) := by omega
  have h1 : (k : Int) < (n : Int) := by omega
  go_simp
/-- The place that goes as number k. -/
def rN (pol : Int) (l : List Ent) (k : Nat) : Nat := (rnkN pol l).getD k 0
theorem rN_at (pol : Int) (l : List Ent) (k : Nat) (h : k < (rnkN pol l).length) : rN pol l k = (rnkN pol l)[k] := by unfold rN; rw [List.getD_eq_getElem?_getD, List.getElem?_eq_getElem h]; rfl
theorem rN_lt (pol : Int) (l : List Ent) (k : Nat) (h : k < l.length) : rN pol l k < l.length := by
  rw [rN_at pol l k (by rw [rnkN_len]; exact h)]
  exact rnkN_lt pol l k _
theorem rN_rank (pol : Int) (l : List Ent) (k : Nat) (h : k < l.length) (h2 : k < (rank pol (idxL l)).length) : (rank pol (idxL l))[k] = (rN pol l k : Int) := by
  rw [rN_at pol l k (by rw [rnkN_len]; exact h)]
  simp only [rnkN_rank, List.getElem_map]
/-- Those that have gone. -/
def metK (pol : Int) (l : List Ent) (k : Nat) : List Bool := (List.range l.length).map fun j => decide (j ∈ (rnkN pol l).take k)
theorem metK_len (pol : Int) (l : List Ent) (k : Nat) : (metK pol l k).length = l.length := by simp [metK]
theorem metK_zero (pol : Int) (l : List Ent) : metK pol l 0 = List.replicate l.length false := by
  unfold metK
  apply List.ext_getElem
  · simp
  · intro i h1 h2
    simp
theorem metK_at (pol : Int) (l : List Ent) (k : Nat) (h : k < l.length) (h2 : rN pol l k < (metK pol l k).length) : (metK pol l k)[rN pol l k] = false := by
  have h3 : k < (rnkN pol l).length := by rw [rnkN_len]; exact h
  have h4 := rnkN_new pol l k h3
  rw [← rN_at pol l k h3] at h4
  simp only [metK, List.getElem_map, List.getElem_range]
  exact decide_eq_false h4
theorem metK_set (pol : Int) (l : List Ent) (k : Nat) (h : k < l.length) : (metK pol l k).set (rN pol l k) true = metK pol l (k + 1) := by
  have h3 : k < (rnkN pol l).length := by rw [rnkN_len]; exact h
  have e := List.take_succ_eq_append_getElem h3
  unfold metK
  rw [e, ← rN_at pol l k h3]
  apply List.ext_getElem
  · simp
  · intro i h1 h2
    rw [List.getElem_set, List.getElem_map, List.getElem_map, List.getElem_range]
    by_cases c : rN pol l k = i
    · rw [if_pos c, ← c]
      simp
    · rw [if_neg c]
      simp only [List.mem_append, List.mem_singleton]
      congr 1
      apply propext
      exact ⟨fun x => .inl x, fun x => x.elim id (fun y => (c y.symm).elim)⟩
theorem kb_repl (n : Nat) : KB.row (List.replicate n false) = List.replicate n (.bool false) := by
  induction n with
  | zero => rfl
  | succ n ih => rw [List.replicate_succ, KB.row_cons, ih, List.replicate_succ]; rfl
theorem KB_cell12 {w : World} {base q n cap : Nat} {l : List Bool} (h : w.ownsRow base 4 1 (.slice (some ⟨q, 0, none⟩) n cap) n (KB.row l)) (hn : n = l.length) (j : Nat) (hj : j < l.length) : w.cell? ⟨q, j, none⟩ = some (.bool l[j]) ∧ w.frozen? ⟨q, j, none⟩ = false := by
  subst hn
  refine ⟨?_, h.frozenAt j⟩
  rw [h.cellAt j (by omega)]
  have := KB.row_at l j hj 0 (by decide)
  rw [show j * KB.k + 0 = j from by simp [KB]] at this
  exact this

set_option maxHeartbeats 8000000 in
theorem victimRank_law (pol : Int) (A : Option Addr) (c : Nat) (l : List Ent) (w : World) (h : KE.Rd w A l ∧ (A = none → l = [] ∧ c = 0)) :
    Calls Try.prog 5 #[.int .i64 pol, .slice A l.length c] w fun e w' => e = .returned (.bool true) ∧ Below w.heap.size w w' := by
  have HR := Lib.hid h.1
  clear h
  by_cases hl : l.length ≤ 200
  · have hl' : ¬ (200 : Int) < (l.length : Int) := by omega
    obtain ⟨n, hn⟩ : ∃ n, n = l.length := ⟨_, rfl⟩
    have HN := Lib.hid hn
    have cO := Lib.hid (fun (W : World) (hb : Below w.heap.size w W) => ours12_any A c l W (HR.out.keep hb (Nat.le_refl _)) (by omega))
    rw [← hn] at hl' hl
    rw [← hn]
    rw [← hn] at cO
    have mk := fun W => run_make_row' (P := Try.prog) 37 4 (.bool false) 1 Try.underlying37 info_bool rfl .i64 .i64 n (by omega) (by omega) W
    clear hn
    go_enter Try.func5, Try.ntmps5
    go_wp2_with fail
    refine (awake12_any _).mono ?_
    rintro e w1 ⟨rfl, h1⟩
    have B1 := Lib.hid h1
    clear h1
    go_wp2_with fail
    refine (cO.out w1 B1.out).mono ?_
    rintro e w2 hq
    obtain ⟨A2, c2, rfl, ho2, hb2⟩ := hq.eo
    rw [← HN.out] at ho2 ⊢
    obtain ⟨B0, hB0⟩ : ∃ B0, B0 = w.heap.size := ⟨_, rfl⟩
    have O2 : Hid (EO w2 B0 A2 n c2 l) := Lib.hid ⟨ho2.1, own_low ho2.2 (by rw [hB0]; exact B1.out.size)⟩
    have B2 : Hid (Below B0 w w2) := Lib.hid (by rw [hB0]; exact B1.out.trans (hb2.mono B1.out.size))
    have HB0 := Lib.hid hB0
    have MK := Lib.hid mk
    clear hq ho2 hb2 cO hB0 mk
    go_wp2_with fail
    go_loopw [7] (fun i wr => ∃ k : Nat, i = .int .i64 k ∧ k ≤ n ∧ EO wr B0 A2 n c2 (trn numF l k) ∧ Below B0 w wr) (fun i _ => n - (RowKit.intOf i).toNat)
    case atStart => exact ⟨0, rfl, Nat.zero_le _, by rw [trn_zero]; exact O2.out, B2.out⟩
    case round =>
      clear O2 B2
      obtain ⟨k, rfl, hk, ho, hB⟩ := hrel
      have O2 := Lib.hid ho
      have B2 := Lib.hid hB
      clear ho hB
      obtain ⟨W, rfl⟩ : ∃ W, W = wr := ⟨_, rfl⟩
      by_cases hlt : k < n
      · have hlt' : (k : Int) < (n : Int) := by omega
        have hk9 : (k : Int) + 1 ≤ 1000000 := by omega
        obtain ⟨g, rfl, gB, gz⟩ := O2.out.addr (by omega)
        have ik := fun V => idx_ent g n c2 k hlt V
        obtain ⟨k0, k1, kf0, kf1⟩ := O2.out.cells k hlt
        have ON := Lib.hid (O2.out.setI k hlt (k : Int))
        have OS : Hid ((trn numF l k).set k ⟨(k : Int), scL (trn numF l k) k⟩ = trn numF l (k + 1)) := Lib.hid (num_step l k (by rw [← HN.out]; exact hlt))
        have BN := Lib.hid (B2.out.setCell (p := ⟨g, k * 2, none⟩) gB (.int .i64 (k : Int)))
        have HLT := Lib.hid hlt
        generalize nuL (trn numF l k) k = x0 at *
        clear O2 B2 k1 kf1
        go_wp2
        go_roundw
        case rel => exact ⟨k + 1, by go_num, HLT.out, by rw [← OS.out]; exact ON.out, BN.out⟩
        case measure =>
          have := HLT.out
          simp [RowKit.intOf]
          omega
      · have hlt' : ¬ (k : Int) < (n : Int) := by omega
        have hkn : k = n := by omega
        have O3 : Hid (EO W B0 A2 n c2 (idxL l)) := Lib.hid (by
          have h1 := O2.out
          rw [hkn, HN.out, num_end] at h1
          rw [HN.out]
          exact h1)
        obtain ⟨r3, l3, n3⟩ := O3.out.rd
        have cR := rank12_any pol A2 c2 (idxL l) W r3 n3 (by rw [idxL_len, ← HN.out]; omega)
        have cC := Lib.hid (fun (V : World) (hb : Below W.heap.size W V) => by
          have h1 := choose12_any pol A2 c2 (idxL l) V (r3.kept hb) (by rw [idxL_len, ← HN.out]; exact l3) (by rw [idxL_len, ← HN.out]; omega)
          rw [idxL_len, ← HN.out] at h1
          exact h1)
        rw [idxL_len, ← HN.out] at cR
        have CR := Lib.hid cR
        have HRL : Hid ((rank pol (idxL l)).length = n) := Lib.hid (by rw [rank_len, idxL_len, HN.out])
        clear r3 l3 n3 cR hkn O2
        go_wp2_with fail
        refine CR.out.mono ?_
        rintro e w3 ⟨A3, c3, rfl, ho3, h3⟩
        have R3 := Lib.hid ho3
        have O4 := Lib.hid (O3.out.keep h3)
        have V3 := Lib.hid h3
        have B4 : Hid (Below w.heap.size w w3) := Lib.hid (by rw [← HB0.out]; exact B2.out.trans (h3.mono (by rw [HB0.out]; exact B2.out.size)))
        rw [HRL.out]
        have tn : ((n : Int) != (n : Int)) = false := by simp
        have mk := MK.out
        clear ho3 h3 O3 B2 CR
        go_wp2_with fail
        clear mk tn
        go_loopw [10] (fun i wr => ∃ k : Nat, i = .int .i64 k ∧ k ≤ n ∧ wr.ownsRow w3.heap.size 4 1 (.slice (some ⟨w3.heap.size, 0, none⟩) n n) n (KB.row (metK pol l k)) ∧ Below w3.heap.size w3 wr) (fun i _ => n - (RowKit.intOf i).toNat)
        case atStart => exact ⟨0, rfl, Nat.zero_le _, by rw [metK_zero, kb_repl, ← HN.out]; exact own_made (hp_new rfl) (by omega) (Nat.le_refl _), by go_grown⟩
        case round =>
          obtain ⟨k, rfl, hk, hm, hB⟩ := hrel
          have HM := Lib.hid hm
          have HB := Lib.hid hB
          have hz := hB.size
          obtain ⟨W5, rfl⟩ : ∃ W5, W5 = wr := ⟨_, rfl⟩
          by_cases hkl : k < n
          · have hkl' : (k : Int) < (n : Int) := by omega
            have hk9 : (k : Int) + 1 ≤ 1000000 := by omega
            have HKN := Lib.hid hkl
            obtain ⟨g, rfl, gB, gz⟩ := O4.out.addr (by omega)
            obtain ⟨A4, c4, e4, -, rd3, a3⟩ := KI.rd_own R3.out rfl
            simp only [Value.slice.injEq, true_and] at e4
            obtain ⟨rfl, rfl⟩ := e4
            obtain ⟨q, off, rfl, hq, -⟩ := KI_rd12 rd3 (k := k) (by rw [HRL.out]; exact hkl)
            have hoff : off = 0 := by have := (a3 _ rfl).2.2; simpa using this
            subst hoff
            have rc : ∀ j, (hj : j < n) → W5.cell? ⟨q, j, none⟩ = some (.int .i64 (rN pol l j : Int)) := fun j hj => by
              have hj2 : j < (rank pol (idxL l)).length := by rw [HRL.out]; exact hj
              obtain ⟨q', off', e', -, x⟩ := KI_rd12 rd3 (k := j) hj2
              simp only [Option.some.injEq, Addr.mk.injEq, and_true] at e'
              obtain ⟨rfl, rfl⟩ := e'
              rw [rN_rank pol l j (by rw [← HN.out]; exact hj) hj2, Nat.zero_add] at x
              exact (hB.cell (p := ⟨q, j, none⟩) hq).trans x
            have hz5 : q < W5.heap.size := by omega
            have gz5 : g < W5.heap.size := by omega
            obtain ⟨p, hp⟩ : ∃ p, p = rN pol l k := ⟨_, rfl⟩
            have hpn : p < n := by rw [hp, HN.out]; exact rN_lt pol l k (by rw [← HN.out]; exact hkl)
            have mc : W5.cell? ⟨w3.heap.size, p, none⟩ = some (.bool false) ∧ W5.frozen? ⟨w3.heap.size, p, none⟩ = false := by
              have h2 : rN pol l k < (metK pol l k).length := by rw [metK_len, ← HN.out, ← hp]; exact hpn
              have h1 := KB_cell12 hm (by rw [metK_len, HN.out]) (rN pol l k) h2
              rw [metK_at pol l k (by rw [← HN.out]; exact hkl) h2, ← hp] at h1
              exact h1
            have zm : w3.heap.size < W5.heap.size := by
              obtain ⟨_, hh⟩ := own_heap hm (b := w3.heap.size) rfl
              exact lt_of_block hh
            have r0 := rc k hkl
            rw [← hp] at r0
            have HST : Hid ((metK pol l k).set p true = metK pol l (k + 1)) := Lib.hid (by rw [hp]; exact metK_set pol l k (by rw [← HN.out]; exact hkl))
            have iq := fun V => idx_intc q n c3 k hkl V
            have im := fun V => idx_bool w3.heap.size n n p hpn V
            have g1 : decide ((p : Int) < 0) = false := by simp
            have g2 : decide ((p : Int) ≥ (n : Int)) = false := by simp; omega
            have g2n : decide (n ≤ p) = false := by simp; omega
            have M0 := fun x : Later W5.heap.size W5 => (x.cell (p := ⟨w3.heap.size, p, none⟩) zm).trans mc.1
            have HMC := Lib.hid mc
            have HP := Lib.hid hp
            have HPN := Lib.hid hpn
            have RC := Lib.hid rc
            clear hm hB rd3 a3 rc hp
            by_cases hpol : pol = 1
            · have a1 : (pol != 1) = false := by simp [hpol]
              have a3 : (pol == 1) = true := by simp [hpol]
              have HPOL := Lib.hid hpol
              clear hpol
              by_cases hk0 : k = 0
              · have b3 : decide ((k : Int) > 0) = false := by simp; omega
                have b3n : decide (0 < k) = false := by simp; omega
                clear hk0
                go_wp2_with fail
                refine region_later W5.heap.size (by kernel_rfl) (by kernel_rfl) ?_
                try simp only [List.append_eq, List.cons_append, List.nil_append]
                repeat (go_big_quiet_step (fail))
                refine wpQuiet_nil ?_
                intro x2
                have b2 := x2.below
                generalize x2.at = w6 at *
                clear x2
                have HM6 := Lib.hid (own_block HM.out (fun b _ hl => b2.block b hl))
                have HB6 := Lib.hid (HB.out.trans (b2.mono hz))
                obtain ⟨mc0, mf0⟩ : w6.cell? ⟨w3.heap.size, p, none⟩ = some (.bool false) ∧ w6.frozen? ⟨w3.heap.size, p, none⟩ = false := ⟨(b2.cell (p := ⟨w3.heap.size, p, none⟩) zm).trans mc.1, (b2.frozen (p := ⟨w3.heap.size, p, none⟩) zm).trans mc.2⟩
                have HN6 := Lib.hid (Kd.own_set1 (K := KB) rfl HM6.out p (by rw [metK_len, ← HN.out]; exact hpn) true (.bool true) rfl)
                have HB7 := Lib.hid (HB6.out.setCell (p := ⟨w3.heap.size, p, none⟩) (Nat.le_refl _) (.bool true))
                clear b2 HM6 HB6 M0
                go_wp2
                go_roundw
                case rel => exact ⟨k + 1, by go_num, HKN.out, by have h9 := HST.out; rw [← h9]; exact HN6.out, HB7.out⟩
                case measure =>
                  have := HKN.out
                  simp [RowKit.intOf]
                  omega
              · have b3 : decide ((k : Int) > 0) = true := by simp; omega
                have b3n : decide (0 < k) = true := by simp; omega
                obtain ⟨j, hj⟩ : ∃ j, j = k - 1 := ⟨_, rfl⟩
                have ej : (k : Int) - 1 = (j : Int) := by omega
                have wj : IntKind.i64.wrap (j : Int) = (j : Int) := by rw [IntKind.wrap_i64]; omega
                have hjn : j < n := by omega
                obtain ⟨p', hp'⟩ : ∃ p', p' = rN pol l j := ⟨_, rfl⟩
                have hpn' : p' < n := by rw [hp', HN.out]; exact rN_lt pol l j (by rw [← HN.out]; exact hjn)
                have r1 := RC.out j hjn
                rw [← hp'] at r1
                have ij := fun V => idx_intc q n c3 j hjn V
                have O5 := O4.out.keep (HB.out.mono (Nat.le_refl _))
                obtain ⟨-, s0, -, -⟩ := O5.cells p hpn
                obtain ⟨-, s1, -, -⟩ := O5.cells p' hpn'
                have ig := fun V => idx_ent g n c2 p hpn V
                have ig' := fun V => idx_ent g n c2 p' hpn' V
                have hle : scL (idxL l) p' ≤ scL (idxL l) p := by
                  have h1 : j < (rnkN 1 l).length := by rw [rnkN_len, ← HN.out]; exact hjn
                  have h2 : k < (rnkN 1 l).length := by rw [rnkN_len, ← HN.out]; exact hkl
                  rw [HP.out, hp', HPOL.out, rN_at 1 l j h1, rN_at 1 l k h2, idxL_sc l _ (rnkN_lt 1 l j h1), idxL_sc l _ (rnkN_lt 1 l k h2)]
                  exact rnkN_rise l j k h2 (by omega)
                generalize scL (idxL l) p = sp at s0 hle
                generalize scL (idxL l) p' = sp' at s1 hle
                have R1 := fun x : Later W5.heap.size W5 => (x.cell (p := ⟨q, j, none⟩) hz5).trans r1
                have S0 := fun x : Later W5.heap.size W5 => (x.cell (p := ⟨g, p * 2 + 1, none⟩) gz5).trans s0
                have S1 := fun x : Later W5.heap.size W5 => (x.cell (p := ⟨g, p' * 2 + 1, none⟩) gz5).trans s1
                have b4 : decide (sp' > sp) = false := by simp; omega
                have b4n : decide (sp < sp') = false := b4
                clear hk0 hj hp' r1 s0 s1 O5 hle
                go_wp2_with fail
                refine region_later W5.heap.size (by kernel_rfl) (by kernel_rfl) ?_
                try simp only [List.append_eq, List.cons_append, List.nil_append]
                repeat (go_big_quiet_step (fail))
                refine wpQuiet_nil ?_
                intro x2
                have b2 := x2.below
                generalize x2.at = w6 at *
                clear x2
                have HM6 := Lib.hid (own_block HM.out (fun b _ hl => b2.block b hl))
                have HB6 := Lib.hid (HB.out.trans (b2.mono hz))
                obtain ⟨mc0, mf0⟩ : w6.cell? ⟨w3.heap.size, p, none⟩ = some (.bool false) ∧ w6.frozen? ⟨w3.heap.size, p, none⟩ = false := ⟨(b2.cell (p := ⟨w3.heap.size, p, none⟩) zm).trans mc.1, (b2.frozen (p := ⟨w3.heap.size, p, none⟩) zm).trans mc.2⟩
                have HN6 := Lib.hid (Kd.own_set1 (K := KB) rfl HM6.out p (by rw [metK_len, ← HN.out]; exact hpn) true (.bool true) rfl)
                have HB7 := Lib.hid (HB6.out.setCell (p := ⟨w3.heap.size, p, none⟩) (Nat.le_refl _) (.bool true))
                clear b2 HM6 HB6 M0 R1 S0 S1
                go_wp2
                go_roundw
                case rel => exact ⟨k + 1, by go_num, HKN.out, by have h9 := HST.out; rw [← h9]; exact HN6.out, HB7.out⟩
                case measure =>
                  have := HKN.out
                  simp [RowKit.intOf]
                  omega
            · have a1 : (pol != 1) = true := by simp [hpol]
              have a3 : (pol == 1) = false := by simp [hpol]
              obtain ⟨n1, hn1⟩ : ∃ n1, n1 = n - 1 := ⟨_, rfl⟩
              have en1 : (n : Int) - 1 = (n1 : Int) := by omega
              have wn1 : IntKind.i64.wrap (n1 : Int) = (n1 : Int) := by rw [IntKind.wrap_i64]; omega
              have hpe : p = n1 - k := by
                have h2 : k < (rnkN pol l).length := by rw [rnkN_len, ← HN.out]; exact hkl
                rw [HP.out, rN_at pol l k h2, rnkN_lru pol hpol l k h2, hn1, HN.out]
              have en2 : (n1 : Int) - (k : Int) = (p : Int) := by omega
              have wp : IntKind.i64.wrap (p : Int) = (p : Int) := by rw [IntKind.wrap_i64]; omega
              have a2 : ((p : Int) != (p : Int)) = false := by simp
              clear hpol hn1 hpe
              go_wp2_with fail
              refine region_later W5.heap.size (by kernel_rfl) (by kernel_rfl) ?_
              try simp only [List.append_eq, List.cons_append, List.nil_append]
              repeat (go_big_quiet_step (fail))
              refine wpQuiet_nil ?_
              intro x2
              have b2 := x2.below
              generalize x2.at = w6 at *
              clear x2
              have HM6 := Lib.hid (own_block HM.out (fun b _ hl => b2.block b hl))
              have HB6 := Lib.hid (HB.out.trans (b2.mono hz))
              obtain ⟨mc0, mf0⟩ : w6.cell? ⟨w3.heap.size, p, none⟩ = some (.bool false) ∧ w6.frozen? ⟨w3.heap.size, p, none⟩ = false := ⟨(b2.cell (p := ⟨w3.heap.size, p, none⟩) zm).trans mc.1, (b2.frozen (p := ⟨w3.heap.size, p, none⟩) zm).trans mc.2⟩
              have HN6 := Lib.hid (Kd.own_set1 (K := KB) rfl HM6.out p (by rw [metK_len, ← HN.out]; exact hpn) true (.bool true) rfl)
              have HB7 := Lib.hid (HB6.out.setCell (p := ⟨w3.heap.size, p, none⟩) (Nat.le_refl _) (.bool true))
              clear b2 HM6 HB6 M0
              go_wp2
              go_roundw
              case rel => exact ⟨k + 1, by go_num, HKN.out, by have h9 := HST.out; rw [← h9]; exact HN6.out, HB7.out⟩
              case measure =>
                have := HKN.out
                simp [RowKit.intOf]
                omega
          · have hkl' : ¬ (k : Int) < (n : Int) := by omega
            go_wp2_with fail
            refine (cC.out W5 (V3.out.trans (HB.out.mono V3.out.size))).mono ?_
            rintro e w6 ⟨rfl, h6⟩
            have B6 : Hid (Below w.heap.size w w6) := Lib.hid ((B4.out.trans (HB.out.mono B4.out.size)).trans (h6.mono (by have := B4.out.size; omega)))
            by_cases hn0 : n = 0
            · have hd : decide (0 < n) = false := by simp; omega
              have hd2 : decide ((n : Int) > 0) = false := by simp; omega
              rw [hd]
              clear hm hB cC h6
              go_wp2
              go_ret
              exact ⟨rfl, B6.out⟩
            · have hd : decide (0 < n) = true := by simp; omega
              have hd2 : decide ((n : Int) > 0) = true := by simp; omega
              obtain ⟨A4, c4, e4, -, rd3, a3⟩ := KI.rd_own R3.out rfl
              simp only [Value.slice.injEq, true_and] at e4
              obtain ⟨rfl, rfl⟩ := e4
              have hr0 : 0 < (rank pol (idxL l)).length := by rw [HRL.out]; omega
              obtain ⟨q, off, rfl, hq, x⟩ := KI_rd12 rd3 (k := 0) hr0
              have hoff : off = 0 := by have := (a3 _ rfl).2.2; simpa using this
              subst hoff
              obtain ⟨y, hy⟩ : ∃ y, y = rN pol l 0 := ⟨_, rfl⟩
              have hch : chI pol (idxL l) = (y : Int) := by
                unfold chI
                have h1 : 0 < (rnkN pol l).length := by rw [rnkN_len, ← HN.out]; omega
                rw [if_neg (by rw [idxL_len, ← HN.out]; exact hn0), idxL_nu l _ (by have := whr_lt pol (idxL l) (by rw [idxL_len, ← HN.out]; omega); rw [idxL_len] at this; exact this), ← rnkN_first pol l h1, ← rN_at pol l 0 h1, hy]
              rw [rN_rank pol l 0 (by rw [← HN.out]; omega) hr0, ← hy, Nat.zero_add] at x
              have x6 := (h6.cell (p := ⟨q, 0, none⟩) (Nat.lt_of_lt_of_le hq HB.out.size)).trans ((HB.out.cell (p := ⟨q, 0, none⟩) hq).trans x)
              have iq : ∀ V, (Instr.indexAt 30 (.slice (some ⟨q, 0, none⟩) n c3) (.int .i64 0)).run Try.prog V = .ok (.pointer (some ⟨q, 0, none⟩)) V := fun V => by have := idx_intc q n c3 0 (by omega) V; simpa using this
              rw [hd, hch]
              have ty : ((y : Int) == (y : Int)) = true := by simp
              clear hm hB cC h6 rd3 a3 x hy hch hr0
              go_wp2
              go_ret
              exact ⟨rfl, B6.out⟩
  · have hl' : (200 : Int) < (l.length : Int) := by omega
    go_enter Try.func5, Try.ntmps5
    go_wp2_with fail
    refine (awake12_any _).mono ?_
    rintro e w1 ⟨rfl, h1⟩
    go_wp2
    go_ret
    exact ⟨rfl, h1⟩

end Go.Proofs.Ytmmggalcebepeaa
