/-
  What the comparisons of package victim tell, and what the insertion sort of Go's package slices leaves. Condition: the row is the caller's own.
-/
import Derived.Test.YtmmggalcebepeaaNn
import Derived.Shelf.Abstract
namespace Go.Proofs.Ytmmggalcebepeaa
open Go.RowKit
set_option maxRecDepth 100000

theorem ret_i12 {x y : Int} (h : x = y) : Ending.returned (.int .i64 x) = .returned (.int .i64 y) := by rw [h]
set_option maxHeartbeats 400000 in
theorem cmp12_any (x y : Int) (w : World) :
    Calls Try.prog 20 #[.int .i64 x, .int .i64 y] w fun e w' => e = .returned (.int .i64 (cmp12 x y)) ∧ w = w' := by
  by_cases h1 : x < y
  · have hr := Lib.hid (show cmp12 x y = -1 from if_pos h1)
    go_enter Try.func20, Try.ntmps20
    go_wp2
    go_ret
    exact ⟨ret_i12 hr.out.symm, rfl⟩
  · by_cases h2 : y < x
    · have hr := Lib.hid (show cmp12 x y = 1 from (if_neg h1).trans (if_pos h2))
      go_enter Try.func20, Try.ntmps20
      go_wp2
      go_ret
      exact ⟨ret_i12 hr.out.symm, rfl⟩
    · have hr := Lib.hid (show cmp12 x y = 0 from (if_neg h1).trans (if_neg h2))
      go_enter Try.func20, Try.ntmps20
      go_wp2
      go_ret
      exact ⟨ret_i12 hr.out.symm, rfl⟩
set_option maxHeartbeats 400000 in
theorem light_any (x y : Ent) (w : World) : Calls Try.prog 19 #[.agg #[.int .i64 x.i, .int .i64 x.sc], .agg #[.int .i64 y.i, .int .i64 y.sc]] w fun e w' => e = .returned (.int .i64 (cmp12 x.sc y.sc)) ∧ Below w.heap.size w w' := by
  go_enter Try.func19, Try.ntmps19
  go_wp2_with fail
  refine (cmp12_any _ _ _).mono ?_
  rintro e w1 ⟨rfl, rfl⟩
  go_wp2
  go_ret
  exact ⟨rfl, by go_grown⟩
set_option maxHeartbeats 400000 in
theorem lru_any (x y : Ent) (w : World) : Calls Try.prog 21 #[.agg #[.int .i64 x.i, .int .i64 x.sc], .agg #[.int .i64 y.i, .int .i64 y.sc]] w fun e w' => e = .returned (.int .i64 0) ∧ Below w.heap.size w w' := by
  go_enter Try.func21, Try.ntmps21
  go_wp2
  go_ret
  exact ⟨rfl, by go_grown⟩
/-- What a function value tells of two entries. -/
structure Cmp (g : FuncId) (f : Nat → Ent) (cf : Nat → Nat → Int) : Prop where
  ent : Enters Try.prog g
  call : ∀ x y W, Calls Try.prog g #[.agg #[.int .i64 (f x).i, .int .i64 (f x).sc], .agg #[.int .i64 (f y).i, .int .i64 (f y).sc]] W fun e w' => e = .returned (.int .i64 (cf x y)) ∧ Below W.heap.size W w'
theorem cmp_light (f : Nat → Ent) : Cmp 19 f (fun x y => cmp12 (f x).sc (f y).sc) := ⟨enters_of Try.func19 (by kernel_rfl) rfl, fun _ _ _ => light_any _ _ _⟩
theorem cmp_lru (f : Nat → Ent) : Cmp 21 f (fun _ _ => 0) := ⟨enters_of Try.func21 (by kernel_rfl) rfl, fun _ _ _ => lru_any _ _ _⟩

/-- What a call leaves that sorts a part of the row. -/
def SPost (w : World) (B : Nat) (A : Option Addr) (n c : Nat) (f : Nat → Ent) (T : Nat → Nat → Prop) (D : Nat → Nat) (a b : Nat) (e : Ending) (w' : World) : Prop := e = .returned (.tuple #[]) ∧ ∃ D', RP w' B A n c f D' ∧ Prm D D' a b ∧ Srt T D' a b ∧ Below B w w'
theorem rot_step (D : Nat → Nat) (p i : Nat) (_h : p < i) : sw (rotD D (p + 1) i (i + 1)) (p + 1) p = rotD D p i (i + 1) := by
  funext k
  unfold sw rotD
  repeat' split
  all_goals first | omega | rfl | (congr 1; omega)
theorem rot_one (D : Nat → Nat) (j i : Nat) (_h : j ≤ i) : rotD D j i (i + 1) j = D i := by
  unfold rotD
  rw [if_pos (by omega)]
  congr 1
  omega
theorem rot_low (D : Nat → Nat) (j i k : Nat) (h : k < j) : rotD D j i (i + 1) k = D k := by
  unfold rotD
  rw [if_neg (by omega), if_neg (by omega)]
theorem ent_eq (f : Nat → Ent) {x y : Nat} (h : x = y) : f x = f y := by rw [h]

set_option maxHeartbeats 4000000 in
theorem insertion_any (w : World) (B : Nat) (A : Option Addr) (n c : Nat) (f : Nat → Ent) (D : Nat → Nat) (h : RP w B A n c f D) (g : FuncId) (cf : Nat → Nat → Int) (hc : Cmp g f cf) (T : Nat → Nat → Prop) (ho : Tol T cf)
    (a b : Nat) (hd : ∀ i j, a ≤ i → i < j → j < b → D j < D i) (hab : a ≤ b) (hb : b ≤ n) (hn : n ≤ 1000000) :
    Calls Try.prog 24 #[.slice A n c, .int .i64 (a : Int), .int .i64 (b : Int), .func (.func g) #[] #[]] w (SPost w B A n c f T D a b) := by
  have HR := Lib.hid h
  have HC := Lib.hid hc
  have HO := Lib.hid ho
  have HD := Lib.hid hd
  have hE : ∀ args w, (callFunc g args).run Try.prog w = .ok (.enter g args) w := hc.ent
  clear h hc ho hd
  go_enter Try.func24, Try.ntmps24
  go_wp2_with fail
  go_loopw [8] (fun i wr => ∃ (i' : Nat) (D' : Nat → Nat), i = .int .i64 i' ∧ a < i' ∧ (i' ≤ b ∨ i' = a + 1 ∧ D' = D) ∧ RP wr B A n c f D' ∧ Prm D D' a i' ∧ Srt T D' a i' ∧ Below B w wr) (fun i _ => b - (RowKit.intOf i).toNat)
  case atStart => exact ⟨a + 1, D, by go_num, by omega, .inr ⟨rfl, rfl⟩, HR.out, Prm.refl _ _ _, Srt.few (Nat.le_refl _), Below.refl _ _⟩
  case round =>
    obtain ⟨i, D', rfl, hai, hib, hr, hp, hs, hB⟩ := hrel
    have HK := Lib.hid hr
    have HB := Lib.hid hB
    have HP := Lib.hid hp
    have HS := Lib.hid hs
    clear hr hB hp hs
    by_cases hlt : i < b
    · have hlt' : (i : Int) < (b : Int) := by omega
      have HI := Lib.hid hib
      clear hib
      go_wp2_with fail
      go_loopw [9] (fun j wr2 => ∃ (j' : Nat), j = .int .i64 j' ∧ a ≤ j' ∧ j' ≤ i ∧ RP wr2 B A n c f (rotD D' j' i (i + 1)) ∧ (∀ k, j' ≤ k → k < i → T (D' i) (D' k)) ∧ Below B w wr2) (fun j _ => (RowKit.intOf j).toNat)
      case atStart => exact ⟨i, rfl, by omega, Nat.le_refl _, by rw [rot_none D' i i (i + 1) (Nat.le_refl _) (by omega) (.inl rfl)]; exact HK.out, fun k h1 h2 => by omega, HB.out⟩
      case round =>
        obtain ⟨j, rfl, haj, hji, hr, ht, hB⟩ := hrel
        have HK2 := Lib.hid hr
        have HB2 := Lib.hid hB
        have HT := Lib.hid ht
        clear hr hB ht
        have FIN : Hid ((∀ k, a ≤ k → k < j → T (D' k) (D' i)) → Prm D (rotD D' j i (i + 1)) a (i + 1) ∧ Srt T (rotD D' j i (i + 1)) a (i + 1)) := Lib.hid (fun h1 =>
          ⟨(HP.out.wide (Nat.le_refl _) (Nat.le_succ _)).trans ((Prm.rot D' j i (i + 1) hji (Nat.le_succ _)).wide haj (Nat.le_refl _)), srt_right HS.out ⟨haj, hji⟩ h1 HT.out⟩)
        obtain ⟨W, rfl⟩ : ∃ W, W = wr := ⟨_, rfl⟩
        by_cases hja : a < j
        · have t0 : decide ((j : Int) > (a : Int)) = true := by simp; omega
          obtain ⟨p, rfl⟩ : ∃ p, j = p + 1 := ⟨j - 1, by omega⟩
          obtain ⟨q, hq⟩ : ∃ q, q = p + 1 := ⟨_, rfl⟩
          have eq0 : ((p + 1 : Nat) : Int) = (q : Int) := by omega
          have ep : (q : Int) - 1 = (p : Int) := by omega
          have wp : IntKind.i64.wrap (p : Int) = (p : Int) := by rw [IntKind.wrap_i64]; omega
          obtain ⟨A0, rfl, gB, gz⟩ := HK2.out.addr (by omega)
          have ip := fun V => idx_ent A0 n c p (by omega) V
          have iq := fun V => idx_ent A0 n c q (by omega) V
          obtain ⟨x, hx⟩ : ∃ x, x = D' i := ⟨_, rfl⟩
          obtain ⟨y, hy⟩ : ∃ y, y = D' p := ⟨_, rfl⟩
          have ex : rotD D' (p + 1) i (i + 1) q = x := by rw [hq, hx]; exact rot_one D' (p + 1) i (by omega)
          have ey : rotD D' (p + 1) i (i + 1) p = y := by rw [hy]; exact rot_low D' (p + 1) i p (by omega)
          obtain ⟨DD, hDD⟩ : ∃ DD, DD = rotD D' (p + 1) i (i + 1) := ⟨_, rfl⟩
          rw [← hDD] at HK2 ex ey
          have HSW : Hid (sw DD q p = rotD D' p i (i + 1)) := Lib.hid (by rw [hDD, hq]; exact rot_step D' p i (by omega))
          have HDD : Hid (DD = rotD D' (p + 1) i (i + 1)) := Lib.hid hDD
          obtain ⟨q0, q1, -, -⟩ := HK2.out.cells q (by omega)
          obtain ⟨p0, p1, -, -⟩ := HK2.out.cells p (by omega)
          rw [ex] at q0 q1
          rw [ey] at p0 p1
          have Q0 := fun x : Later W.heap.size W => (x.cell (p := ⟨A0, q * 2, none⟩) gz).trans q0
          have Q1 := fun x : Later W.heap.size W => (x.cell (p := ⟨A0, q * 2 + 1, none⟩) gz).trans q1
          have P0 := fun x : Later W.heap.size W => (x.cell (p := ⟨A0, p * 2, none⟩) gz).trans p0
          have P1 := fun x : Later W.heap.size W => (x.cell (p := ⟨A0, p * 2 + 1, none⟩) gz).trans p1
          clear q0 q1 p0 p1
          have XY : Hid (x = D' i ∧ y = D' p ∧ q = p + 1) := Lib.hid ⟨hx, hy, hq⟩
          have HPQ : Hid (p < n ∧ q < n ∧ a ≤ p ∧ p < i) := Lib.hid (by omega)
          have hxy : x < y := by
            rw [hx, hy]
            rw [HP.out.out i (by omega)]
            obtain ⟨p', e1, e2, e3⟩ := HP.out.into p (by omega)
            rw [e3]
            exact HD.out p' i e1 e2 hlt
          rw [eq0]
          rw [eq0] at t0
          have t0n : decide (a < q) = true := by simp; omega
          clear hx hy hq ex ey eq0 hDD
          by_cases hcf : cf x y < 0
          · have HT1 := Lib.hid (HO.out.lt y x hxy hcf)
            clear hxy
            go_wp2_with fail
            refine region_later W.heap.size (by kernel_rfl) (by kernel_rfl) ?_
            repeat (go_big_quiet_step (first | (go_at_fn g; exact later_of (Nat.le_refl _) (HC.out.call _ _ _))))
            refine wpQuiet_nil ?_
            intro x2
            have b2 := x2.below
            clear P0 P1 Q0 Q1
            generalize x2.at = w2 at *
            clear x2
            have HK3 := Lib.hid (HK2.out.keep b2)
            have HB3 := Lib.hid (HB2.out.trans (b2.mono (by have := HB2.out.size; omega)))
            clear HK2 HB2
            obtain ⟨q0, q1, qf0, qf1⟩ := HK3.out.cells q HPQ.out.2.1
            obtain ⟨p0, p1, pf0, pf1⟩ := HK3.out.cells p HPQ.out.1
            obtain ⟨W2, rfl⟩ : ∃ W2, W2 = w2 := ⟨_, rfl⟩
            have HN := Lib.hid (RP.swapped (w := W2.drew) (HK3.out.keep ((Below.refl _ _).drew)) q p HPQ.out.2.1 HPQ.out.1)
            have HBN := Lib.hid (below_set4 (i := q) (j := p) (y0 := .int .i64 (f (DD p)).i) (y1 := .int .i64 (f (DD p)).sc) (y2 := .int .i64 (f (DD q)).i) (y3 := .int .i64 (f (DD q)).sc) HB3.out.drew gB)
            have gz2 : A0 < W2.heap.size := by have := b2.size; omega
            clear HK3 HB3 b2 gz
            rw [HSW.out] at HN
            generalize f (DD p) = e1 at *
            generalize f (DD q) = e2 at *
            go_wp2_with fail
            go_region
            all_goals go_wp2
            all_goals
              refine ⟨⟨p, rfl, HPQ.out.2.2.1, by have := HPQ.out.2.2.2; omega, HN.out, fun k k1 k2 => ?_, HBN.out⟩, by have := XY.out.2.2; simp [RowKit.intOf]; omega⟩
              have hh := XY.out
              rcases Nat.eq_or_lt_of_le k1 with e | e
              · rw [← e, ← hh.1, ← hh.2.1]
                exact HT1.out
              · exact HT.out k (by omega) k2
          · have HT1 := Lib.hid (HO.out.ge y x hxy hcf)
            clear hxy
            have hcf' : decide (cf x y < 0) = false := by simp; omega
            go_wp2_with fail
            refine region_later W.heap.size (by kernel_rfl) (by kernel_rfl) ?_
            repeat (go_big_quiet_step (first | (go_at_fn g; exact later_of (Nat.le_refl _) (HC.out.call _ _ _))))
            refine wpQuiet_nil ?_
            intro x2
            have b2 := x2.below
            clear P0 P1 Q0 Q1
            generalize x2.at = w2 at *
            clear x2
            have HK3 := Lib.hid (HK2.out.keep b2)
            have HB3 := Lib.hid (HB2.out.trans (b2.mono (by have := HB2.out.size; omega)))
            have HF := FIN.out (fun k k1 k2 => by
              have hh := XY.out
              rcases Nat.eq_or_lt_of_le (show k ≤ p by omega) with e | e
              · rw [e, ← hh.1, ← hh.2.1]
                exact HT1.out
              · have h1 := HS.out k p k1 e (by have := HPQ.out.2.2.2; omega)
                rw [← hh.2.1] at h1
                have h2 := HT1.out
                rw [hh.1] at h2
                exact HO.out.tr _ _ _ h1 h2)
            rw [← HDD.out] at HF
            have HF := Lib.hid HF
            clear b2 HK2 HB2
            go_wp2
            go_roundw
            case rel => exact ⟨i + 1, DD, by go_num, by omega, .inl (by omega), HK3.out, HF.out.1, HF.out.2, HB3.out⟩
            case measure => simp [RowKit.intOf]; omega
        · have t0 : decide ((j : Int) > (a : Int)) = false := by simp; omega
          have t0n : decide (a < j) = false := by simp; omega
          have HF := Lib.hid (FIN.out (fun k k1 k2 => by omega))
          go_wp2_with fail
          refine region_later W.heap.size (by kernel_rfl) (by kernel_rfl) ?_
          repeat (go_big_quiet_step (fail))
          refine wpQuiet_nil ?_
          intro x2
          have b2 := x2.below
          generalize x2.at = w2 at *
          clear x2
          have HK3 := Lib.hid (HK2.out.keep b2)
          have HB3 := Lib.hid (HB2.out.trans (b2.mono (by obtain ⟨_, _, g1, g2⟩ := HK2.out.addr (by omega); omega)))
          clear b2 HK2 HB2
          go_wp2
          go_roundw
          case rel => exact ⟨i + 1, _, by go_num, by omega, .inl (by omega), HK3.out, HF.out.1, HF.out.2, HB3.out⟩
          case measure => simp [RowKit.intOf]; omega
    · have hlt' : ¬ (i : Int) < (b : Int) := by omega
      have HI := Lib.hid hib
      clear hib
      go_wp2
      go_end0
      rcases HI.out with h | ⟨h1, h2⟩
      · obtain rfl : i = b := by omega
        exact ⟨rfl, D', HK.out, HP.out, HS.out, HB.out⟩
      · subst h2
        exact ⟨rfl, D', HK.out, Prm.refl _ _ _, Srt.few (by omega), HB.out⟩

end Go.Proofs.Ytmmggalcebepeaa
