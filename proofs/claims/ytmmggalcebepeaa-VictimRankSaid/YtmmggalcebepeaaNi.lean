/-
  What symMerge of Go's package slices leaves. Condition: the row is the caller's own, and both sides are sorted.
-/
import Derived.Test.YtmmggalcebepeaaNj
import Derived.Deep.DeepCutAuto
import Derived.Deep.CutBlock
namespace Go.Proofs.Ytmmggalcebepeaa
open Go.RowKit
set_option maxRecDepth 100000

/-- While it is sought. -/
structure Inv (T : Nat → Nat → Prop) (D : Nat → Nat) (a m b mid nn i j : Nat) : Prop where
  ge : a ≤ i ∧ nn ≤ i + b
  le : i ≤ j ∧ j ≤ m ∧ j ≤ mid
  fst : ∀ k, a ≤ k → nn ≤ k + b → k < i → T (D k) (D (nn - 1 - k))
  snd : ∀ k, j ≤ k → k < m → k < mid → T (D (nn - 1 - k)) (D k)
section
variable {T : Nat → Nat → Prop} {D : Nat → Nat} {a m b mid nn i j h : Nat} {cf : Nat → Nat → Int}
theorem Inv.hi (ho : Tol T cf) (H : Inv T D a m b mid nn i j) (hn : nn = mid + m) (hL : Srt T D a m) (hR : Srt T D m b) (h1 : i ≤ h) (h2 : h < j) (ht : T (D (nn - 1 - h)) (D h)) : Inv T D a m b mid nn i h := by
  obtain ⟨g1, g2⟩ := H.ge
  obtain ⟨l1, l2, l3⟩ := H.le
  refine ⟨⟨g1, g2⟩, ⟨h1, by omega, by omega⟩, H.fst, fun k k1 k2 k3 => ?_⟩
  rcases Nat.eq_or_lt_of_le k1 with e | e
  · rw [← e]; exact ht
  · exact ho.tr _ _ _ (hR (nn - 1 - k) (nn - 1 - h) (by omega) (by omega) (by omega)) (ho.tr _ _ _ ht (hL h k (by omega) e k2))
theorem Inv.lo (ho : Tol T cf) (H : Inv T D a m b mid nn i j) (hn : nn = mid + m) (hL : Srt T D a m) (hR : Srt T D m b) (h1 : i ≤ h) (h2 : h < j) (ht : T (D h) (D (nn - 1 - h))) : Inv T D a m b mid nn (h + 1) j := by
  obtain ⟨g1, g2⟩ := H.ge
  obtain ⟨l1, l2, l3⟩ := H.le
  refine ⟨⟨by omega, by omega⟩, ⟨by omega, l2, l3⟩, fun k k1 k2 k3 => ?_, H.snd⟩
  rcases Nat.eq_or_lt_of_le (show k ≤ h by omega) with e | e
  · rw [e]; exact ht
  · exact ho.tr _ _ _ (hL k h k1 e (by omega)) (ho.tr _ _ _ ht (hR (nn - 1 - h) (nn - 1 - k) (by omega) (by omega) (by omega)))
theorem Inv.fnd (H : Inv T D a m b mid nn i i) (hm : mid = (a + b) / 2) (hn : nn = mid + m) : Fnd T D a m b i := by
  subst hm
  subst hn
  exact ⟨H.ge, ⟨H.le.2.1, H.le.2.2⟩, H.fst, H.snd⟩
end

set_option maxHeartbeats 8000000 in
theorem merge_main (w : World) (B : Nat) (A : Option Addr) (n c : Nat) (f : Nat → Ent) (D : Nat → Nat) (h : RP w B A n c f D) (g : FuncId) (cf : Nat → Nat → Int) (hc : Cmp g f cf) (T : Nat → Nat → Prop) (ho : Tol T cf)
    (a m b : Nat) (ham : a + 1 < m) (hL : Srt T D a m) (hR : Srt T D m b) (hlr : LR D a m b) (hmb : m + 1 < b) (hb : b ≤ n) (hn : n ≤ 1000000)
    (ih : MergeDoes B A n c f g T (b - a)) :
    Calls Try.prog 25 #[.slice A n c, .int .i64 (a : Int), .int .i64 (m : Int), .int .i64 (b : Int), .func (.func g) #[] #[]] w (SPost w B A n c f T D a b) := by
  obtain ⟨A0, rfl, gB, gz0⟩ := h.addr (by omega)
  have HR := Lib.hid h
  have HC := Lib.hid hc
  have HO := Lib.hid ho
  have HLS := Lib.hid hL
  have HRS := Lib.hid hR
  have HLR := Lib.hid hlr
  have IH := Lib.hid ih
  have hE : ∀ args w, (callFunc g args).run Try.prog w = .ok (.enter g args) w := hc.ent
  obtain ⟨d, hd⟩ : ∃ d, d = m - a := ⟨_, rfl⟩
  have ed : (m : Int) - (a : Int) = (d : Int) := by omega
  have wd : IntKind.i64.wrap (d : Int) = (d : Int) := by rw [IntKind.wrap_i64]; omega
  have td2 : (d == 1) = false := by simp; omega
  have td3 : ¬ d = 1 := by omega
  obtain ⟨d', hd'⟩ : ∃ d', d' = b - m := ⟨_, rfl⟩
  have ed' : (b : Int) - (m : Int) = (d' : Int) := by omega
  have wd' : IntKind.i64.wrap (d' : Int) = (d' : Int) := by rw [IntKind.wrap_i64]; omega
  have td2' : (d' == 1) = false := by simp; omega
  have td3' : ¬ d' = 1 := by omega
  obtain ⟨t, ht⟩ : ∃ t, t = a + b := ⟨_, rfl⟩
  obtain ⟨mid, hmid⟩ : ∃ mid, mid = t / 2 := ⟨_, rfl⟩
  have et : (a : Int) + (b : Int) = (t : Int) := by omega
  have wt : IntKind.i64.wrap (t : Int) = (t : Int) := by rw [IntKind.wrap_i64]; omega
  have vt : IntKind.u64.wrap (t : Int) = (t : Int) := by rw [IntKind.wrap_u64]; omega
  have em : (t : Int) / 2 = (mid : Int) := by omega
  have wm : IntKind.i64.wrap (mid : Int) = (mid : Int) := by rw [IntKind.wrap_i64]; omega
  have vm : IntKind.u64.wrap (mid : Int) = (mid : Int) := by rw [IntKind.wrap_u64]; omega
  obtain ⟨nn, hnn⟩ : ∃ nn, nn = mid + m := ⟨_, rfl⟩
  have en : (mid : Int) + (m : Int) = (nn : Int) := by omega
  have wn : IntKind.i64.wrap (nn : Int) = (nn : Int) := by rw [IntKind.wrap_i64]; omega
  have HM : Hid (mid = (a + b) / 2 ∧ nn = mid + m) := Lib.hid (by omega)
  have q1 : a < mid := by omega
  have q2 : mid < b := by omega
  have q3 : a ≤ nn := by omega
  have q4 : nn ≤ 2000000 := by omega
  clear h hc ho hL hR hlr ih hd hd' ht hmid hnn
  go_enter Try.func25, Try.ntmps25
  go_upto_if 140 with fail
  clear td2 td3 td2' td3' ed wd ed' wd'
  go_cut [20, 21] (fun s r wx => w = wx ∧ ∃ i j : Nat, s = .int .i64 i ∧ r = .int .i64 j ∧ Inv T D a m b mid nn i j)
  case first =>
    by_cases hg : mid < m
    · have hg' : (mid : Int) < (m : Int) := by omega
      have q5 : b ≤ nn := by have := HM.out; omega
      obtain ⟨x, hx⟩ : ∃ x, x = nn - b := ⟨_, rfl⟩
      have ex : (nn : Int) - (b : Int) = (x : Int) := by omega
      have wx : IntKind.i64.wrap (x : Int) = (x : Int) := by rw [IntKind.wrap_i64]; omega
      have HI : Hid (Inv T D a m b mid nn x mid) := Lib.hid ⟨by have := HM.out; omega, by have := HM.out; omega, fun k k1 k2 k3 => by omega, fun k k1 k2 k3 => by omega⟩
      clear hx
      go_wp2_with fail
      go_meet
      exact ⟨rfl, x, mid, rfl, rfl, HI.out⟩
    · have hg' : ¬ (mid : Int) < (m : Int) := by omega
      have HI : Hid (Inv T D a m b mid nn a m) := Lib.hid ⟨by have := HM.out; omega, by have := HM.out; omega, fun k k1 k2 k3 => by omega, fun k k1 k2 k3 => by omega⟩
      go_wp2_with fail
      go_meet
      exact ⟨rfl, a, m, rfl, rfl, HI.out⟩
  case rest =>
    obtain ⟨rfl, i0, j0, rfl, rfl, hI0⟩ := hcut
    have HI0 := Lib.hid hI0
    clear hI0 gz0
    obtain ⟨p, hp⟩ : ∃ p, p = nn - 1 := ⟨_, rfl⟩
    have ep : (nn : Int) - 1 = (p : Int) := by have := HM.out; omega
    have wp : IntKind.i64.wrap (p : Int) = (p : Int) := by rw [IntKind.wrap_i64]; omega
    have HPE : Hid (p = nn - 1) := Lib.hid hp
    clear hp
    go_wp2_with fail
    go_loopw [20, 21] (fun i j wr => ∃ (i' j' : Nat), i = .int .i64 i' ∧ j = .int .i64 j' ∧ Inv T D a m b mid nn i' j' ∧ RP wr B (some ⟨A0, 0, none⟩) n c f D ∧ Below B w wr) (fun i j _ => (RowKit.intOf j).toNat - (RowKit.intOf i).toNat)
    case atStart => exact ⟨i0, j0, rfl, rfl, HI0.out, HR.out, Below.refl _ _⟩
    case round =>
      clear HI0
      obtain ⟨i, j, rfl, rfl, hI, hr, hB⟩ := hrel
      have HI := Lib.hid hI
      have HK2 := Lib.hid hr
      have HB2 := Lib.hid hB
      clear hr hB hI
      obtain ⟨W, rfl⟩ : ∃ W, W = wr := ⟨_, rfl⟩
      obtain ⟨_, hA, _, gz⟩ := HK2.out.addr (by omega)
      cases hA
      obtain ⟨i1, i2⟩ := HI.out.ge
      obtain ⟨i3, i4, i5⟩ := HI.out.le
      by_cases hlt : i < j
      · have hlt' : (i : Int) < (j : Int) := by omega
        obtain ⟨s, hs⟩ : ∃ s, s = i + j := ⟨_, rfl⟩
        obtain ⟨h, hh⟩ : ∃ h, h = s / 2 := ⟨_, rfl⟩
        have es : (i : Int) + (j : Int) = (s : Int) := by omega
        have ws : IntKind.i64.wrap (s : Int) = (s : Int) := by rw [IntKind.wrap_i64]; omega
        have wu : IntKind.u64.wrap (s : Int) = (s : Int) := by rw [IntKind.wrap_u64]; omega
        have eh : (s : Int) / 2 = (h : Int) := by omega
        have eh' : (s : Int) / 2 ^ 1 = (h : Int) := by omega
        have wh : IntKind.i64.wrap (h : Int) = (h : Int) := by rw [IntKind.wrap_i64]; omega
        have wv : IntKind.u64.wrap (h : Int) = (h : Int) := by rw [IntKind.wrap_u64]; omega
        have hm1 := HM.out
        have hp1 := HPE.out
        obtain ⟨q, hq⟩ : ∃ q, q = p - h := ⟨_, rfl⟩
        have eq : (p : Int) - (h : Int) = (q : Int) := by omega
        have wq : IntKind.i64.wrap (q : Int) = (q : Int) := by rw [IntKind.wrap_i64]; omega
        have iq := fun V => idx_ent A0 n c q (by omega) V
        have ip := fun V => idx_ent A0 n c h (by omega) V
        obtain ⟨q0, q1, -, -⟩ := HK2.out.cells q (by omega)
        obtain ⟨p0, p1, -, -⟩ := HK2.out.cells h (by omega)
        have Q0 := fun x : Later W.heap.size W => (x.cell (p := ⟨A0, q * 2, none⟩) gz).trans q0
        have Q1 := fun x : Later W.heap.size W => (x.cell (p := ⟨A0, q * 2 + 1, none⟩) gz).trans q1
        have P0 := fun x : Later W.heap.size W => (x.cell (p := ⟨A0, h * 2, none⟩) gz).trans p0
        have P1 := fun x : Later W.heap.size W => (x.cell (p := ⟨A0, h * 2 + 1, none⟩) gz).trans p1
        have hxy : D q < D h := HLR.out h q (by omega) (by omega) (by omega) (by omega)
        have HH : Hid (i ≤ h ∧ h < j ∧ q = nn - 1 - h) := Lib.hid (by omega)
        obtain ⟨x, hx⟩ : ∃ x, x = D q := ⟨_, rfl⟩
        obtain ⟨y, hy⟩ : ∃ y, y = D h := ⟨_, rfl⟩
        rw [← hx] at Q0 Q1
        rw [← hy] at P0 P1
        rw [← hx, ← hy] at hxy
        have XY : Hid (x = D q ∧ y = D h) := Lib.hid ⟨hx, hy⟩
        clear hx hy hs hh hm1 hp1 hq
        by_cases hcf : cf x y < 0
        · have HT1 := Lib.hid (HO.out.lt y x hxy hcf)
          have HI2 := Lib.hid (HI.out.hi (h := h) HO.out HM.out.2 HLS.out HRS.out HH.out.1 HH.out.2.1 (by have hh := XY.out; have h1 := HT1.out; rw [hh.1, hh.2, HH.out.2.2] at h1; exact h1))
          clear hxy
          clear q0 q1 p0 p1
          go_wp2_with fail
          refine region_later W.heap.size (by kernel_rfl) (by kernel_rfl) ?_
          repeat (go_big_quiet_step (first | (go_at_fn g; exact later_of (Nat.le_refl _) (HC.out.call _ _ _))))
          refine wpQuiet_nil ?_
          intro x2
          have b2 := x2.below
          clear P0 P1 Q0 Q1
          generalize x2.at = w2 at *
          clear x2
          have HK3 := Lib.hid (HK2.out.keep b2)
          have HB3 := Lib.hid (HB2.out.trans (b2.mono (by omega)))
          clear b2
          go_wp2
          go_roundw
          case rel => exact ⟨i, h, rfl, rfl, HI2.out, HK3.out, HB3.out⟩
          case measure =>
            have := HH.out
            simp [RowKit.intOf]
            omega
        · have HT1 := Lib.hid (HO.out.ge y x hxy hcf)
          have HI2 := Lib.hid (HI.out.lo (h := h) HO.out HM.out.2 HLS.out HRS.out HH.out.1 HH.out.2.1 (by have hh := XY.out; have h1 := HT1.out; rw [hh.1, hh.2, HH.out.2.2] at h1; exact h1))
          clear hxy
          have hcf' : decide (cf x y < 0) = false := by simp; omega
          clear q0 q1 p0 p1
          go_wp2_with fail
          refine region_later W.heap.size (by kernel_rfl) (by kernel_rfl) ?_
          repeat (go_big_quiet_step (first | (go_at_fn g; exact later_of (Nat.le_refl _) (HC.out.call _ _ _))))
          refine wpQuiet_nil ?_
          intro x2
          have b2 := x2.below
          clear P0 P1 Q0 Q1
          generalize x2.at = w2 at *
          clear x2
          have HK3 := Lib.hid (HK2.out.keep b2)
          have HB3 := Lib.hid (HB2.out.trans (b2.mono (by omega)))
          clear b2
          go_wp2
          exact ⟨⟨h + 1, j, by go_num, rfl, HI2.out, HK3.out, HB3.out⟩, by have := HH.out; simp [RowKit.intOf]; omega⟩
      · obtain rfl : i = j := by omega
        have hlt' : ¬ (i : Int) < (i : Int) := by omega
        have hm1 := HM.out
        obtain ⟨e, he⟩ : ∃ e, e = nn - i := ⟨_, rfl⟩
        have ee : (nn : Int) - (i : Int) = (e : Int) := by omega
        have we : IntKind.i64.wrap (e : Int) = (e : Int) := by rw [IntKind.wrap_i64]; omega
        have HMI : Hid (Mid T (rotD D i m e) a i mid e b) := Lib.hid (by
          have h1 := (HI.out.fnd hm1.1 hm1.2).mid HO.out HLS.out HRS.out HLR.out (by omega) (by omega)
          rw [← hm1.1, ← hm1.2, ← he] at h1
          exact h1)
        have HE : Hid (m ≤ e ∧ mid ≤ e ∧ e ≤ b ∧ e + i = mid + m) := Lib.hid (by omega)
        clear hm1 he gz
        have HCS := HE.out
        go_upto_region 38 with fail
        rename_i hTail
        have HT := Lib.hid hTail
        clear hTail
        go_wp2_with fail
        refine HT.out _ _ ?_
        exact smTail_any B A0 n c f g T a m b mid i e hn w W D HK2.out HB2.out IH.out HMI.out (by omega)

theorem merge_any (B : Nat) (A : Option Addr) (n c : Nat) (f : Nat → Ent) (g : FuncId) (cf : Nat → Nat → Int) (hc : Cmp g f cf) (T : Nat → Nat → Prop) (ho : Tol T cf) (hn : n ≤ 1000000) :
    ∀ (N : Nat) (w : World) (D : Nat → Nat) (a m b : Nat), b - a ≤ N → RP w B A n c f D → a < m → m < b → b ≤ n → Srt T D a m → Srt T D m b → LR D a m b → Calls Try.prog 25 #[.slice A n c, .int .i64 (a : Int), .int .i64 (m : Int), .int .i64 (b : Int), .func (.func g) #[] #[]] w (SPost w B A n c f T D a b)
  | 0, _, _, _, _, _, h, _, h1, h2, _, _, _, _ => by omega
  | N + 1, w, D, a, m, b, h, hr, h1, h2, h3, hL, hR, hlr => by
    by_cases c1 : m = a + 1
    · exact merge_left w B A n c f D hr g cf hc T ho a m b c1 hR hlr h2 h3 hn
    · by_cases c2 : b = m + 1
      · exact merge_right w B A n c f D hr g cf hc T ho a m b (by omega) hL hlr c2 h3 hn
      · exact merge_main w B A n c f D hr g cf hc T ho a m b (by omega) hL hR hlr (by omega) h3 hn (fun w' D' a' m' b' h4 => merge_any B A n c f g cf hc T ho hn N w' D' a' m' b' (by omega))

end Go.Proofs.Ytmmggalcebepeaa
