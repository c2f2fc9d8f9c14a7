/-
  What symMerge of Go's package slices leaves, where one side is one entry. Condition: the row is the caller's own, and both sides are sorted.
-/
import Derived.Test.YtmmggalcebepeaaNg
namespace Go.Proofs.Ytmmggalcebepeaa
open Go.RowKit
set_option maxRecDepth 100000

theorem rot_up (D : Nat → Nat) (a k : Nat) (_h : a ≤ k) : sw (rotD D a (a + 1) (k + 1)) k (k + 1) = rotD D a (a + 1) (k + 1 + 1) := by
  funext x
  unfold sw rotD
  repeat' split
  all_goals first | omega | rfl | (congr 1; omega)

set_option maxHeartbeats 4000000 in
theorem merge_left (w : World) (B : Nat) (A : Option Addr) (n c : Nat) (f : Nat → Ent) (D : Nat → Nat) (h : RP w B A n c f D) (g : FuncId) (cf : Nat → Nat → Int) (hc : Cmp g f cf) (T : Nat → Nat → Prop) (ho : Tol T cf)
    (a m b : Nat) (hm : m = a + 1) (hR : Srt T D m b) (hlr : LR D a m b) (hmb : m < b) (hb : b ≤ n) (hn : n ≤ 1000000) :
    Calls Try.prog 25 #[.slice A n c, .int .i64 (a : Int), .int .i64 (m : Int), .int .i64 (b : Int), .func (.func g) #[] #[]] w (SPost w B A n c f T D a b) := by
  obtain ⟨A0, rfl, gB, gz0⟩ := h.addr (by omega)
  have HR := Lib.hid h
  have HC := Lib.hid hc
  have HO := Lib.hid ho
  have HRS := Lib.hid hR
  have HLR := Lib.hid hlr
  have hE : ∀ args w, (callFunc g args).run Try.prog w = .ok (.enter g args) w := hc.ent
  have em : (m : Int) - (a : Int) = 1 := by omega
  have HM := Lib.hid hm
  clear h hc ho hR hlr hm
  go_enter Try.func25, Try.ntmps25
  go_wp2_with fail
  go_loopw [10, 11] (fun i j wr => ∃ (i' j' : Nat), i = .int .i64 i' ∧ j = .int .i64 j' ∧ m ≤ i' ∧ i' ≤ j' ∧ j' ≤ b ∧ (∀ k, m ≤ k → k < i' → T (D k) (D a)) ∧ (∀ k, j' ≤ k → k < b → T (D a) (D k)) ∧ RP wr B (some ⟨A0, 0, none⟩) n c f D ∧ Below B w wr) (fun i j _ => (RowKit.intOf j).toNat - (RowKit.intOf i).toNat)
  case atStart => exact ⟨m, b, rfl, rfl, Nat.le_refl _, by omega, Nat.le_refl _, fun k h1 h2 => by omega, fun k h1 h2 => by omega, HR.out, Below.refl _ _⟩
  case round =>
    obtain ⟨i, j, rfl, rfl, hi, hij, hj, h1, h2, hr, hB⟩ := hrel
    have HK2 := Lib.hid hr
    have HB2 := Lib.hid hB
    have H1 := Lib.hid h1
    have H2 := Lib.hid h2
    clear hr hB h1 h2
    obtain ⟨W, rfl⟩ : ∃ W, W = wr := ⟨_, rfl⟩
    obtain ⟨_, hA, _, gz⟩ := HK2.out.addr (by omega)
    cases hA
    by_cases hlt : i < j
    · have hlt' : (i : Int) < (j : Int) := by omega
      obtain ⟨s, hs⟩ : ∃ s, s = i + j := ⟨_, rfl⟩
      obtain ⟨h, hh⟩ : ∃ h, h = s / 2 := ⟨_, rfl⟩
      have es : (i : Int) + (j : Int) = (s : Int) := by omega
      have ws : IntKind.i64.wrap (s : Int) = (s : Int) := by rw [IntKind.wrap_i64]; omega
      have wu : IntKind.u64.wrap (s : Int) = (s : Int) := by rw [IntKind.wrap_u64]; omega
      have eh : (s : Int) / 2 = (h : Int) := by omega
      have eh' : (s : Int) / 2 ^ 1 = (h : Int) := by omega
      have wh : IntKind.i64.wrap (h : Int) = (h : Int) := by rw [IntKind.wrap_i64]; omega
      have wv : IntKind.u64.wrap (h : Int) = (h : Int) := by rw [IntKind.wrap_u64]; omega
      have iq := fun V => idx_ent A0 n c h (by omega) V
      have ip := fun V => idx_ent A0 n c a (by omega) V
      obtain ⟨q0, q1, -, -⟩ := HK2.out.cells h (by omega)
      obtain ⟨p0, p1, -, -⟩ := HK2.out.cells a (by omega)
      have Q0 := fun x : Later W.heap.size W => (x.cell (p := ⟨A0, h * 2, none⟩) gz).trans q0
      have Q1 := fun x : Later W.heap.size W => (x.cell (p := ⟨A0, h * 2 + 1, none⟩) gz).trans q1
      have P0 := fun x : Later W.heap.size W => (x.cell (p := ⟨A0, a * 2, none⟩) gz).trans p0
      have P1 := fun x : Later W.heap.size W => (x.cell (p := ⟨A0, a * 2 + 1, none⟩) gz).trans p1
      have hxy : D h < D a := HLR.out a h (Nat.le_refl _) (by omega) (by omega) (by omega)
      have HH : Hid (i ≤ h ∧ h < j) := Lib.hid (by omega)
      obtain ⟨x, hx⟩ : ∃ x, x = D h := ⟨_, rfl⟩
      obtain ⟨y, hy⟩ : ∃ y, y = D a := ⟨_, rfl⟩
      rw [← hx] at Q0 Q1
      rw [← hy] at P0 P1
      rw [← hx, ← hy] at hxy
      have XY : Hid (x = D h ∧ y = D a) := Lib.hid ⟨hx, hy⟩
      clear hx hy hs hh
      by_cases hcf : cf x y < 0
      · have HT1 := Lib.hid (HO.out.lt y x hxy hcf)
        clear hxy
        clear q0 q1 p0 p1
        go_wp2_with fail
        refine region_later W.heap.size (by kernel_rfl) (by kernel_rfl) ?_
        repeat (go_big_quiet_step (first | (go_at_fn g; exact later_of (Nat.le_refl _) (HC.out.call _ _ _))))
        refine wpQuiet_nil ?_
        intro x2
        have b2 := x2.below
        clear P0 P1 Q0 Q1
        generalize x2.at = w2 at *
        clear x2
        have HK3 := Lib.hid (HK2.out.keep b2)
        have HB3 := Lib.hid (HB2.out.trans (b2.mono (by omega)))
        clear b2
        go_wp2
        refine ⟨⟨h + 1, j, by go_num, rfl, by have := HH.out; omega, by have := HH.out; omega, hj, fun k k1 k2 => ?_, H2.out, HK3.out, HB3.out⟩, by have := HH.out; simp [RowKit.intOf]; omega⟩
        have hh := XY.out
        rcases Nat.eq_or_lt_of_le (show k ≤ h by omega) with e | e
        · rw [e, ← hh.1, ← hh.2]
          exact HT1.out
        · have t1 := HRS.out k h k1 e (by have := HH.out; omega)
          have t2 := HT1.out
          rw [hh.1, hh.2] at t2
          exact HO.out.tr _ _ _ t1 t2
      · have HT1 := Lib.hid (HO.out.ge y x hxy hcf)
        clear hxy
        clear q0 q1 p0 p1
        go_wp2_with fail
        refine region_later W.heap.size (by kernel_rfl) (by kernel_rfl) ?_
        repeat (go_big_quiet_step (first | (go_at_fn g; exact later_of (Nat.le_refl _) (HC.out.call _ _ _))))
        refine wpQuiet_nil ?_
        intro x2
        have b2 := x2.below
        clear P0 P1 Q0 Q1
        generalize x2.at = w2 at *
        clear x2
        have HK3 := Lib.hid (HK2.out.keep b2)
        have HB3 := Lib.hid (HB2.out.trans (b2.mono (by omega)))
        clear b2
        go_wp2
        go_roundw
        case rel =>
          refine ⟨i, h, rfl, rfl, hi, by have := HH.out; omega, by have := HH.out; omega, H1.out, fun k k1 k2 => ?_, HK3.out, HB3.out⟩
          have hh := XY.out
          rcases Nat.eq_or_lt_of_le k1 with e | e
          · rw [← e, ← hh.1, ← hh.2]
            exact HT1.out
          · have t1 := HRS.out h k (by have := HH.out; omega) e k2
            have t2 := HT1.out
            rw [hh.1, hh.2] at t2
            exact HO.out.tr _ _ _ t2 t1
        case measure =>
          have := HH.out
          simp [RowKit.intOf]
          omega
    · obtain rfl : i = j := by omega
      have hlt' : ¬ (i : Int) < (i : Int) := by omega
      have HFIN : Hid (Prm D (rotD D a (a + 1) i) a b ∧ Srt T (rotD D a (a + 1) i) a b) := Lib.hid
        ⟨(Prm.rot D a (a + 1) i (by omega) (by omega)).wide (Nat.le_refl _) hj, srt_left (by rw [← HM.out]; exact HRS.out) (by omega) (by rw [← HM.out]; exact H1.out) H2.out⟩
      clear gz
      go_wp2_with fail
      go_loopw [13] (fun k wr => ∃ k' : Nat, k = .int .i64 k' ∧ a ≤ k' ∧ k' + 1 ≤ i ∧ RP wr B (some ⟨A0, 0, none⟩) n c f (rotD D a (a + 1) (k' + 1)) ∧ Below B w wr) (fun k _ => i - (RowKit.intOf k).toNat)
      case atStart => exact ⟨a, rfl, Nat.le_refl _, by omega, by rw [rot_none D a (a + 1) (a + 1) (by omega) (by omega) (.inr rfl)]; exact HK2.out, HB2.out⟩
      case round =>
        obtain ⟨k, rfl, hk, hki, hr, hB⟩ := hrel
        clear HK2 HB2
        have HK2 := Lib.hid hr
        have HB2 := Lib.hid hB
        clear hr hB
        obtain ⟨W, rfl⟩ : ∃ W, W = wr := ⟨_, rfl⟩
        obtain ⟨_, hA, _, gz⟩ := HK2.out.addr (by omega)
        cases hA
        obtain ⟨i1, hi1⟩ : ∃ i1, i1 = i - 1 := ⟨_, rfl⟩
        have ei1 : (i : Int) - 1 = (i1 : Int) := by omega
        have wi1 : IntKind.i64.wrap (i1 : Int) = (i1 : Int) := by rw [IntKind.wrap_i64]; omega
        by_cases hkl : k < i1
        · have hkl' : (k : Int) < (i1 : Int) := by omega
          obtain ⟨p, hp⟩ : ∃ p, p = k + 1 := ⟨_, rfl⟩
          have ep : (k : Int) + 1 = (p : Int) := by omega
          have wp : IntKind.i64.wrap (p : Int) = (p : Int) := by rw [IntKind.wrap_i64]; omega
          obtain ⟨DD, hDD⟩ : ∃ DD, DD = rotD D a (a + 1) (k + 1) := ⟨_, rfl⟩
          rw [← hDD] at HK2
          have HSW : Hid (sw DD k p = rotD D a (a + 1) (p + 1)) := Lib.hid (by rw [hDD, hp]; exact rot_up D a k hk)
          have HPK : Hid (p = k + 1 ∧ p + 1 ≤ i) := Lib.hid (by omega)
          have hpn : p < n := by omega
          have hkn : k < n := by omega
          clear hp hDD hi1
          obtain ⟨q0, q1, qf0, qf1⟩ := HK2.out.cells k (by omega)
          obtain ⟨p0, p1, pf0, pf1⟩ := HK2.out.cells p (by omega)
          have iq := fun V => idx_ent A0 n c k (by omega) V
          have ip := fun V => idx_ent A0 n c p (by omega) V
          have HN := Lib.hid (RP.swapped (w := W.drew) (HK2.out.keep ((Below.refl _ _).drew)) k p (by omega) (by omega))
          have HBN := Lib.hid (below_set4 (i := k) (j := p) (y0 := .int .i64 (f (DD p)).i) (y1 := .int .i64 (f (DD p)).sc) (y2 := .int .i64 (f (DD k)).i) (y3 := .int .i64 (f (DD k)).sc) HB2.out.drew gB)
          clear HB2 HK2
          rw [HSW.out] at HN
          generalize f (DD p) = e1 at *
          generalize f (DD k) = e2 at *
          go_wp2_with fail
          go_region
          all_goals go_wp2
          all_goals exact ⟨⟨p, rfl, by have := HPK.out; omega, HPK.out.2, HN.out, HBN.out⟩, by have := HPK.out; simp [RowKit.intOf]; omega⟩
        · have hkl' : ¬ (k : Int) < (i1 : Int) := by omega
          have hki2 : k + 1 = i := by omega
          rw [hki2] at HK2
          clear hki2 hi1
          go_wp2
          go_end0
          exact ⟨rfl, _, HK2.out, HFIN.out.1, HFIN.out.2, HB2.out⟩

set_option maxHeartbeats 4000000 in
theorem merge_right (w : World) (B : Nat) (A : Option Addr) (n c : Nat) (f : Nat → Ent) (D : Nat → Nat) (h : RP w B A n c f D) (g : FuncId) (cf : Nat → Nat → Int) (hc : Cmp g f cf) (T : Nat → Nat → Prop) (ho : Tol T cf)
    (a m b : Nat) (ham : a + 1 < m) (hL : Srt T D a m) (hlr : LR D a m b) (hmb : b = m + 1) (hb : b ≤ n) (hn : n ≤ 1000000) :
    Calls Try.prog 25 #[.slice A n c, .int .i64 (a : Int), .int .i64 (m : Int), .int .i64 (b : Int), .func (.func g) #[] #[]] w (SPost w B A n c f T D a b) := by
  obtain ⟨A0, rfl, gB, gz0⟩ := h.addr (by omega)
  have HR := Lib.hid h
  have HC := Lib.hid hc
  have HO := Lib.hid ho
  have HLS := Lib.hid hL
  have HLR := Lib.hid hlr
  have hE : ∀ args w, (callFunc g args).run Try.prog w = .ok (.enter g args) w := hc.ent
  obtain ⟨d, hd⟩ : ∃ d, d = m - a := ⟨_, rfl⟩
  have ed : (m : Int) - (a : Int) = (d : Int) := by omega
  have wd : IntKind.i64.wrap (d : Int) = (d : Int) := by rw [IntKind.wrap_i64]; omega
  have td : ((d : Int) == 1) = false := by simp; omega
  have td2 : (d == 1) = false := by simp; omega
  have td3 : ¬ d = 1 := by omega
  have eb : (b : Int) - (m : Int) = 1 := by omega
  have HM := Lib.hid hmb
  clear h hc ho hL hlr hd hmb
  go_enter Try.func25, Try.ntmps25
  go_wp2_with fail
  go_loopw [14, 15] (fun i j wr => ∃ (i' j' : Nat), i = .int .i64 i' ∧ j = .int .i64 j' ∧ a ≤ i' ∧ i' ≤ j' ∧ j' ≤ m ∧ (∀ k, a ≤ k → k < i' → T (D k) (D m)) ∧ (∀ k, j' ≤ k → k < m → T (D m) (D k)) ∧ RP wr B (some ⟨A0, 0, none⟩) n c f D ∧ Below B w wr) (fun i j _ => (RowKit.intOf j).toNat - (RowKit.intOf i).toNat)
  case atStart => exact ⟨a, m, rfl, rfl, Nat.le_refl _, by omega, Nat.le_refl _, fun k h1 h2 => by omega, fun k h1 h2 => by omega, HR.out, Below.refl _ _⟩
  case round =>
    obtain ⟨i, j, rfl, rfl, hi, hij, hj, h1, h2, hr, hB⟩ := hrel
    have HK2 := Lib.hid hr
    have HB2 := Lib.hid hB
    have H1 := Lib.hid h1
    have H2 := Lib.hid h2
    clear hr hB h1 h2
    obtain ⟨W, rfl⟩ : ∃ W, W = wr := ⟨_, rfl⟩
    obtain ⟨_, hA, _, gz⟩ := HK2.out.addr (by omega)
    cases hA
    by_cases hlt : i < j
    · have hlt' : (i : Int) < (j : Int) := by omega
      obtain ⟨s, hs⟩ : ∃ s, s = i + j := ⟨_, rfl⟩
      obtain ⟨h, hh⟩ : ∃ h, h = s / 2 := ⟨_, rfl⟩
      have es : (i : Int) + (j : Int) = (s : Int) := by omega
      have ws : IntKind.i64.wrap (s : Int) = (s : Int) := by rw [IntKind.wrap_i64]; omega
      have wu : IntKind.u64.wrap (s : Int) = (s : Int) := by rw [IntKind.wrap_u64]; omega
      have eh : (s : Int) / 2 = (h : Int) := by omega
      have eh' : (s : Int) / 2 ^ 1 = (h : Int) := by omega
      have wh : IntKind.i64.wrap (h : Int) = (h : Int) := by rw [IntKind.wrap_i64]; omega
      have wv : IntKind.u64.wrap (h : Int) = (h : Int) := by rw [IntKind.wrap_u64]; omega
      have iq := fun V => idx_ent A0 n c m (by omega) V
      have ip := fun V => idx_ent A0 n c h (by omega) V
      obtain ⟨q0, q1, -, -⟩ := HK2.out.cells m (by omega)
      obtain ⟨p0, p1, -, -⟩ := HK2.out.cells h (by omega)
      have Q0 := fun x : Later W.heap.size W => (x.cell (p := ⟨A0, m * 2, none⟩) gz).trans q0
      have Q1 := fun x : Later W.heap.size W => (x.cell (p := ⟨A0, m * 2 + 1, none⟩) gz).trans q1
      have P0 := fun x : Later W.heap.size W => (x.cell (p := ⟨A0, h * 2, none⟩) gz).trans p0
      have P1 := fun x : Later W.heap.size W => (x.cell (p := ⟨A0, h * 2 + 1, none⟩) gz).trans p1
      have hxy : D m < D h := HLR.out h m (by omega) (by omega) (Nat.le_refl _) (by omega)
      have HH : Hid (i ≤ h ∧ h < j) := Lib.hid (by omega)
      obtain ⟨x, hx⟩ : ∃ x, x = D m := ⟨_, rfl⟩
      obtain ⟨y, hy⟩ : ∃ y, y = D h := ⟨_, rfl⟩
      rw [← hx] at Q0 Q1
      rw [← hy] at P0 P1
      rw [← hx, ← hy] at hxy
      have XY : Hid (x = D m ∧ y = D h) := Lib.hid ⟨hx, hy⟩
      clear hx hy hs hh
      by_cases hcf : cf x y < 0
      · have HT1 := Lib.hid (HO.out.lt y x hxy hcf)
        clear hxy
        clear q0 q1 p0 p1
        go_wp2_with fail
        refine region_later W.heap.size (by kernel_rfl) (by kernel_rfl) ?_
        repeat (go_big_quiet_step (first | (go_at_fn g; exact later_of (Nat.le_refl _) (HC.out.call _ _ _))))
        refine wpQuiet_nil ?_
        intro x2
        have b2 := x2.below
        clear P0 P1 Q0 Q1
        generalize x2.at = w2 at *
        clear x2
        have HK3 := Lib.hid (HK2.out.keep b2)
        have HB3 := Lib.hid (HB2.out.trans (b2.mono (by omega)))
        clear b2
        go_wp2
        go_roundw
        case rel =>
          refine ⟨i, h, rfl, rfl, hi, by have := HH.out; omega, by have := HH.out; omega, H1.out, fun k k1 k2 => ?_, HK3.out, HB3.out⟩
          have hh := XY.out
          rcases Nat.eq_or_lt_of_le k1 with e | e
          · rw [← e, ← hh.1, ← hh.2]
            exact HT1.out
          · have t1 := HLS.out h k (by have := HH.out; omega) e k2
            have t2 := HT1.out
            rw [hh.1, hh.2] at t2
            exact HO.out.tr _ _ _ t2 t1
        case measure =>
          have := HH.out
          simp [RowKit.intOf]
          omega
      · have HT1 := Lib.hid (HO.out.ge y x hxy hcf)
        clear hxy
        have hcf' : decide (cf x y < 0) = false := by simp; omega
        clear q0 q1 p0 p1
        go_wp2_with fail
        refine region_later W.heap.size (by kernel_rfl) (by kernel_rfl) ?_
        repeat (go_big_quiet_step (first | (go_at_fn g; exact later_of (Nat.le_refl _) (HC.out.call _ _ _))))
        refine wpQuiet_nil ?_
        intro x2
        have b2 := x2.below
        clear P0 P1 Q0 Q1
        generalize x2.at = w2 at *
        clear x2
        have HK3 := Lib.hid (HK2.out.keep b2)
        have HB3 := Lib.hid (HB2.out.trans (b2.mono (by omega)))
        clear b2
        go_wp2
        refine ⟨⟨h + 1, j, by go_num, rfl, by have := HH.out; omega, by have := HH.out; omega, hj, fun k k1 k2 => ?_, H2.out, HK3.out, HB3.out⟩, by have := HH.out; simp [RowKit.intOf]; omega⟩
        have hh := XY.out
        rcases Nat.eq_or_lt_of_le (show k ≤ h by omega) with e | e
        · rw [e, ← hh.1, ← hh.2]
          exact HT1.out
        · have t1 := HLS.out k h k1 e (by have := HH.out; omega)
          have t2 := HT1.out
          rw [hh.1, hh.2] at t2
          exact HO.out.tr _ _ _ t1 t2
    · obtain rfl : i = j := by omega
      have hlt' : ¬ (i : Int) < (i : Int) := by omega
      have HFIN : Hid (Prm D (rotD D i m (m + 1)) a b ∧ Srt T (rotD D i m (m + 1)) a b) := Lib.hid
        ⟨by rw [HM.out]; exact (Prm.rot D i m (m + 1) hj (by omega)).wide hi (Nat.le_refl _), by rw [HM.out]; exact srt_right HLS.out ⟨hi, hj⟩ H1.out H2.out⟩
      clear gz
      go_wp2_with fail
      go_loopw [17] (fun k wr => ∃ k' : Nat, k = .int .i64 k' ∧ i ≤ k' ∧ k' ≤ m ∧ RP wr B (some ⟨A0, 0, none⟩) n c f (rotD D k' m (m + 1)) ∧ Below B w wr) (fun k _ => (RowKit.intOf k).toNat)
      case atStart => exact ⟨m, rfl, hj, Nat.le_refl _, by rw [rot_none D m m (m + 1) (by omega) (by omega) (.inl rfl)]; exact HK2.out, HB2.out⟩
      case round =>
        obtain ⟨k, rfl, hk, hki, hr, hB⟩ := hrel
        clear HK2 HB2
        have HK2 := Lib.hid hr
        have HB2 := Lib.hid hB
        clear hr hB
        obtain ⟨W, rfl⟩ : ∃ W, W = wr := ⟨_, rfl⟩
        obtain ⟨_, hA, _, gz⟩ := HK2.out.addr (by omega)
        cases hA
        by_cases hkl : i < k
        · have hkl' : (i : Int) < (k : Int) := by omega
          obtain ⟨p, hp⟩ : ∃ p, p = k - 1 := ⟨_, rfl⟩
          have ep : (k : Int) - 1 = (p : Int) := by omega
          have wp : IntKind.i64.wrap (p : Int) = (p : Int) := by rw [IntKind.wrap_i64]; omega
          obtain ⟨DD, hDD⟩ : ∃ DD, DD = rotD D k m (m + 1) := ⟨_, rfl⟩
          rw [← hDD] at HK2
          have HSW : Hid (sw DD k p = rotD D p m (m + 1)) := Lib.hid (by rw [hDD, show k = p + 1 from by omega]; exact rot_step D p m (by omega))
          have HPK : Hid (k = p + 1 ∧ i ≤ p ∧ p ≤ m) := Lib.hid (by omega)
          have hpn : p < n := by omega
          have hkn : k < n := by omega
          clear hp hDD
          obtain ⟨q0, q1, qf0, qf1⟩ := HK2.out.cells k (by omega)
          obtain ⟨p0, p1, pf0, pf1⟩ := HK2.out.cells p (by omega)
          have iq := fun V => idx_ent A0 n c k (by omega) V
          have ip := fun V => idx_ent A0 n c p (by omega) V
          have HN := Lib.hid (RP.swapped (w := W.drew) (HK2.out.keep ((Below.refl _ _).drew)) k p (by omega) (by omega))
          have HBN := Lib.hid (below_set4 (i := k) (j := p) (y0 := .int .i64 (f (DD p)).i) (y1 := .int .i64 (f (DD p)).sc) (y2 := .int .i64 (f (DD k)).i) (y3 := .int .i64 (f (DD k)).sc) HB2.out.drew gB)
          clear HB2 HK2
          rw [HSW.out] at HN
          generalize f (DD p) = e1 at *
          generalize f (DD k) = e2 at *
          go_wp2_with fail
          go_region
          all_goals go_wp2
          all_goals exact ⟨⟨p, rfl, HPK.out.2.1, HPK.out.2.2, HN.out, HBN.out⟩, by have := HPK.out; simp [RowKit.intOf]; omega⟩
        · have hkl' : ¬ (i : Int) < (k : Int) := by omega
          have hki2 : k = i := by omega
          rw [hki2] at HK2
          clear hki2
          go_wp2
          go_end0
          exact ⟨rfl, _, HK2.out, HFIN.out.1, HFIN.out.2, HB2.out⟩

end Go.Proofs.Ytmmggalcebepeaa
