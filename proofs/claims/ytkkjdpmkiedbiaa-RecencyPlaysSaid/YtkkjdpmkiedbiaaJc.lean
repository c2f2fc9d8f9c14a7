/-
  What New, Drop, lead, Touch of package recency do. Condition: the ring lies at the pointer's block.
-/
import Derived.Test.YtkkjdpmkiedbiaaJb
import Derived.Test.YtkkjdpmkiedbiaaReg
import Derived.BigRegion
import Derived.Deep.DeepCutAuto
namespace Go.Proofs.Ytkkjdpmkiedbiaa
open Go.RowKit
set_option maxRecDepth 100000

/-- The list was changed. -/
def RcPost (t : Nat) (S : Nat → Prop) (w : World) (s' : Rc) (e0 : Ending) (e : Ending) (w' : World) : Prop := e = e0 ∧ ∃ S', RcS w' t S' s' ∧ Frm S w w' ∧ Sub S S' w.heap.size

set_option maxHeartbeats 1000000 in
theorem rcdrop_any (w : World) (t : Nat) (S : Nat → Prop) (s : Rc) (h : RcS w t S s) (i : Int) :
    Calls Try.prog 22 #[.pointer (some ⟨t, 0, none⟩), .int .i64 i] w (RcPost t S w (s.drop i) (.returned (.bool (s.has i)))) := by
  have hc := rchas_any w t S s h i
  cases hh : s.has i
  · rw [hh] at hc
    rw [drop_no hh]
    have HS := Lib.hid h
    have HC := Lib.hid hc
    clear h hc hh
    go_enter Try.func22, Try.ntmps22
    go_wp2_with fail
    refine HC.out.mono ?_
    rintro e w1 ⟨rfl, rfl⟩
    go_wp2
    go_ret
    exact ⟨rfl, _, HS.out, Frm.refl _ _, Sub.refl _ _⟩
  · rw [hh] at hc
    obtain ⟨v, R, rfl, hk, h⟩ := h
    obtain ⟨i0, hm⟩ := has_bd10 hh
    obtain ⟨k, rfl⟩ := Int.eq_ofNat_of_zero_le i0
    rw [Int.toNat_natCast] at hm
    have hlt := hk.lt k hm
    have hll := hk.len
    have hn0 := hk.n
    obtain ⟨c0, c1, f0, f1, hz⟩ := h.head
    obtain ⟨g, d, rfl, hd, gz, gt⟩ := h.ring (by omega)
    obtain ⟨r0, r1, -, -⟩ := h.at k (by omega)
    obtain ⟨bp, bq⟩ := hk.bd k (by omega)
    have HD := Lib.hid (hk.drop hm)
    have HO := Lib.hid hk
    have HL : Hid (((s.drop (k : Int)).L.length : Int) = (s.L.length : Int) - 1 ∧ 0 < s.L.length) := Lib.hid (by
      obtain ⟨A, B, e⟩ := List.append_of_mem hm
      have h1 := hk.once
      rw [e] at h1
      unfold Rc.drop
      simp only
      rw [e, wout_split h1]
      simp
      omega)
    have HA := Lib.hid h
    generalize hp : (R k).a = p at r0 bp HD
    generalize hq : (R k).b = q at r1 bq HD
    have HC := Lib.hid hc
    have k1 : (k : Int) < (s.n : Int) := by omega
    have k2 : (p : Int) < (s.n : Int) := by omega
    have k3 : (q : Int) < (s.n : Int) := by omega
    clear h hc hh hk hm hp hq hll
    go_enter Try.func22, Try.ntmps22
    go_wp2_with fail
    refine HC.out.mono ?_
    rintro e w1 ⟨rfl, rfl⟩
    go_upto_region 4 with fail
    generalize hW : w.alloc _ = W
    have hB : Below w.heap.size w W := by subst hW; go_grown
    have hz1 : w.heap.size < W.heap.size := by subst hW; simp
    have hX : W.heap[w.heap.size]? = some (.cells #[.int .i64 (p : Int), .int .i64 (q : Int)] 52 (0, 0)) := by subst hW; exact hp_new rfl
    have HB := Lib.hid (HA.out.keep hB)
    have HX := Lib.hid hX
    have hgx : g ≠ w.heap.size := by omega
    have HBW := Lib.hid hB
    clear hW hX r0 r1 c0 c1 f0 f1 hB
    obtain ⟨c0, -, -, -, hz⟩ := HB.out.head
    have gW := (HB.out.2.lt g rfl).2
    have C0 := fun x : Later W.heap.size W => (x.cell (p := ⟨t, 0, none⟩) hz).trans c0
    have X0 : ∀ x : Later W.heap.size W, x.at.cell? ⟨w.heap.size, 0, none⟩ = some (.int .i64 (p : Int)) := fun x => (x.cell (p := ⟨w.heap.size, 0, none⟩) hz1).trans (by rw [cell_row HX.out]; rfl)
    have X1 : ∀ x : Later W.heap.size W, x.at.cell? ⟨w.heap.size, 1, none⟩ = some (.int .i64 (q : Int)) := fun x => (x.cell (p := ⟨w.heap.size, 1, none⟩) hz1).trans (by rw [cell_row HX.out]; rfl)
    clear c0
    refine region_tail 10 W.heap.size (by kernel_rfl) (by kernel_rfl) ?_
    simp only [List.take_succ_cons, List.take_zero, List.drop_succ_cons, List.drop_zero]
    repeat (go_big_quiet_step (fail))
    refine wpQuiet_nil ?_
    intro x2
    have bw2 := x2.below
    clear C0 X0 X1
    generalize x2.at = w2 at *
    clear x2
    have HBa := Lib.hid (HB.out.keep bw2)
    obtain ⟨r0, r1, e0, e1⟩ := HBa.out.at p (by omega)
    have hb2 := HBa.out.setB p q bp
    have hx2 : (w2.setCell ⟨g, p * 2 + 1, none⟩ (.int .i64 (q : Int))).heap[w.heap.size]? = some (.cells #[.int .i64 (p : Int), .int .i64 (q : Int)] 52 (0, 0)) := (Below.heap_setCell _ _ _ _ (fun e => hgx e.symm)).trans ((bw2.block _ hz1).trans HX.out)
    have hf2 : Frm (fot t (.slice (some ⟨g, 0, none⟩) s.n d)) w (w2.setCell ⟨g, p * 2 + 1, none⟩ (.int .i64 (q : Int))) := ((frm_of_below HBW.out).then bw2).setCell (p := ⟨g, p * 2 + 1, none⟩) (.inl (.inr rfl)) _
    go_wp2_with fail
    clear hz hz1 gW r0 r1 e0 e1 HX
    generalize hW2 : World.setCell _ _ _ = W2 at hb2 hx2 hf2 ⊢
    have HX := Lib.hid hx2
    have hz1 := lt_of_block hx2
    have HB2 := Lib.hid hb2
    have HF2 := Lib.hid hf2
    clear hb2 hx2 hf2 hW2
    obtain ⟨c0, -, -, -, hz⟩ := HB2.out.head
    have gW := (HB2.out.2.lt g rfl).2
    have C0 := fun x : Later W2.heap.size W2 => (x.cell (p := ⟨t, 0, none⟩) hz).trans c0
    have X0 : ∀ x : Later W2.heap.size W2, x.at.cell? ⟨w.heap.size, 0, none⟩ = some (.int .i64 (p : Int)) := fun x => (x.cell (p := ⟨w.heap.size, 0, none⟩) hz1).trans (by rw [cell_row HX.out]; rfl)
    have X1 : ∀ x : Later W2.heap.size W2, x.at.cell? ⟨w.heap.size, 1, none⟩ = some (.int .i64 (q : Int)) := fun x => (x.cell (p := ⟨w.heap.size, 1, none⟩) hz1).trans (by rw [cell_row HX.out]; rfl)
    clear c0
    refine region_tail 10 W2.heap.size (by kernel_rfl) (by kernel_rfl) ?_
    simp only [List.take_succ_cons, List.take_zero, List.drop_succ_cons, List.drop_zero]
    repeat (go_big_quiet_step (fail))
    refine wpQuiet_nil ?_
    intro x2
    have bw4 := x2.below
    clear C0 X0 X1
    generalize x2.at = w4 at *
    clear x2
    have HB2a := Lib.hid (HB2.out.keep bw4)
    obtain ⟨r0, r1, e0, e1⟩ := HB2a.out.at q (by omega)
    have hb4 := HB2a.out.setA q p bq
    have hf4 : Frm (fot t (.slice (some ⟨g, 0, none⟩) s.n d)) w (w4.setCell ⟨g, q * 2, none⟩ (.int .i64 (p : Int))) := (HF2.out.then bw4).setCell (p := ⟨g, q * 2, none⟩) (.inl (.inr rfl)) _
    go_upto_region 6 with fail
    clear hz hz1 gW r0 r1 e0 e1 HX
    generalize hW4 : World.setCell _ _ _ = W4 at hb4 hf4 ⊢
    obtain ⟨c0, c1, f0, f1, hz⟩ := hb4.head
    obtain ⟨r0, r1, e0, e1⟩ := hb4.at k (by omega)
    generalize (upA (upB R p q) q p k) = y at r0 r1
    have HN := Lib.hid ((hb4.put k ⟨k, k⟩ (by omega)).setC ((s.L.length : Int) - 1))
    have HF := Lib.hid (((hf4.setCell (p := ⟨g, k * 2, none⟩) (.inl (.inr rfl)) (.int .i64 (k : Int))).setCell (p := ⟨g, k * 2 + 1, none⟩) (.inl (.inr rfl)) (.int .i64 (k : Int))).setCell (p := ⟨t, 1, none⟩) (.inl (.inl rfl)) (.int .i64 ((s.L.length : Int) - 1)))
    have hl9 := HO.out.len
    have hl8 := HL.out
    clear hb4 hf4 hW4 HB2 HB2a HF2 HB HBa HBW bw2 bw4
    go_wp2
    go_ret
    refine ⟨rfl, _, ⟨_, _, rfl, HD.out, ?_⟩, HF.out, Sub.refl _ _⟩
    rw [HL.out.1]
    exact HN.out

set_option maxHeartbeats 1000000 in
theorem rclead_any (w : World) (t : Nat) (S : Nat → Prop) (s : Rc) (h : RcS w t S s) (i : Nat) (hi : i + 1 < s.n) (hn : i ∉ s.L) :
    Calls Try.prog 26 #[.pointer (some ⟨t, 0, none⟩), .int .i64 (i : Int)] w (RcPost t S w ⟨s.n, i :: s.L⟩ (.returned (.tuple #[]))) := by
  have hc := rcend_any w t S s h
  obtain ⟨v, R, rfl, hk, h⟩ := h
  have hll := hk.len
  have hn0 := hk.n
  obtain ⟨m, hm⟩ : ∃ m, s.n = m + 1 := ⟨s.n - 1, by omega⟩
  have e2 : (s.n : Int) - 1 = (m : Int) := by omega
  have e3 : s.n - 1 = m := by omega
  rw [e2] at hc
  obtain ⟨c0, c1, f0, f1, hz⟩ := h.head
  obtain ⟨g, d, rfl, hd, gz, gt⟩ := h.ring (by omega)
  obtain ⟨m0, m1, em0, em1⟩ := h.at m (by omega)
  obtain ⟨-, bq⟩ := hk.bd m (by omega)
  have hD := hk.lead hi hn
  rw [e3] at hD
  generalize hq : (R m).b = q at m1 bq hD
  have HD := Lib.hid hD
  obtain ⟨i0, i1, j0, j1⟩ := h.at i (by omega)
  generalize (R i).a = y0 at i0
  generalize (R i).b = y1 at i1
  have h1 := h.put i ⟨m, q⟩ (by omega)
  have f1' := ((Frm.refl (fot t (.slice (some ⟨g, 0, none⟩) s.n d)) w).setCell (p := ⟨g, i * 2, none⟩) (.inl (.inr rfl)) (.int .i64 (m : Int))).setCell (p := ⟨g, i * 2 + 1, none⟩) (.inl (.inr rfl)) (.int .i64 (q : Int))
  have HC := Lib.hid hc
  have k1 : (i : Int) < (s.n : Int) := by omega
  have k2 : (m : Int) < (s.n : Int) := by omega
  have k3 : (q : Int) < (s.n : Int) := by omega
  have hl9 : s.L.length ≤ 1024 := hll.1
  have H1 := Lib.hid h1
  have F1 := Lib.hid f1'
  clear h hc hk hll e2 e3 hD hq m0 hm h1 f1'
  go_enter Try.func26, Try.ntmps26
  go_wp2_with fail
  refine HC.out.mono ?_
  rintro e w1 ⟨rfl, rfl⟩
  go_upto_region 3 with fail
  generalize hW1 : World.setCell _ _ _ = W1 at H1 F1 ⊢
  obtain ⟨c0, c1, f0, f1, hz⟩ := H1.out.head
  obtain ⟨i0, i1, j0, j1⟩ := H1.out.at q bq
  generalize (up R i ⟨m, q⟩ q).a = y0 at i0
  have H2 := Lib.hid (H1.out.setA q i bq)
  have F2 := Lib.hid (F1.out.setCell (p := ⟨g, q * 2, none⟩) (.inl (.inr rfl)) (.int .i64 (i : Int)))
  clear H1 F1 hW1 i1 m1 em0 em1
  go_upto_region 4 with fail
  generalize hW2 : World.setCell _ _ _ = W2 at H2 F2 ⊢
  obtain ⟨c0, c1, f0, f1, hz⟩ := H2.out.head
  obtain ⟨i0, i1, j0, j1⟩ := H2.out.at m (by omega)
  generalize (upA (up R i ⟨m, q⟩) q i m).b = y1 at i1
  have H3 := H2.out.setB m i (by omega)
  have HN := Lib.hid (H3.setC ((s.L.length : Int) + 1))
  have HF := Lib.hid ((F2.out.setCell (p := ⟨g, m * 2 + 1, none⟩) (.inl (.inr rfl)) (.int .i64 (i : Int))).setCell (p := ⟨t, 1, none⟩) (.inl (.inl rfl)) (.int .i64 ((s.L.length : Int) + 1)))
  clear H2 H3 F2 hW2 i0
  go_wp2
  go_end0
  refine ⟨rfl, _, ⟨_, _, rfl, HD.out, ?_⟩, HF.out, Sub.refl _ _⟩
  exact HN.out

set_option maxHeartbeats 1000000 in
theorem rctouch_any (w : World) (t : Nat) (S : Nat → Prop) (s : Rc) (h : RcS w t S s) (i : Int) :
    Calls Try.prog 21 #[.pointer (some ⟨t, 0, none⟩), .int .i64 i] w (RcPost t S w (s.touch i) (.returned (.bool (s.may i)))) := by
  have hc := rcmay_any w t S s h i
  cases hh : s.may i
  · rw [hh] at hc
    rw [touch_no hh]
    have HS := Lib.hid h
    have HC := Lib.hid hc
    clear h hc hh
    go_enter Try.func21, Try.ntmps21
    go_wp2_with fail
    refine HC.out.mono ?_
    rintro e w1 ⟨rfl, rfl⟩
    go_wp2
    go_ret
    exact ⟨rfl, _, HS.out, Frm.refl _ _, Sub.refl _ _⟩
  · rw [hh] at hc
    obtain ⟨i0, i1⟩ := may_bd hh
    obtain ⟨k, rfl⟩ := Int.eq_ofNat_of_zero_le i0
    rw [touch_yes hh]
    have hnm : k ∉ (s.drop (k : Int)).L := by
      have := drop_has (s := s) (i := (k : Int))
      rw [has_nat10] at this
      simpa using this
    have HD := Lib.hid (rcdrop_any w t S s h (k : Int))
    have HL := Lib.hid (fun W S' (h' : RcS W t S' (s.drop (k : Int))) => rclead_any W t S' (s.drop (k : Int)) h' k (show k + 1 < s.n by omega) hnm)
    have HC := Lib.hid hc
    clear h hc hh hnm i1
    go_enter Try.func21, Try.ntmps21
    go_wp2_with fail
    refine HC.out.mono ?_
    rintro e w1 ⟨rfl, rfl⟩
    go_wp2_with fail
    refine HD.out.mono ?_
    rintro e w2 ⟨rfl, S2, g1, g2, g3⟩
    have G2 := Lib.hid g2
    have G3 := Lib.hid g3
    have C2 := Lib.hid (HL.out _ _ g1)
    clear g1 g2 g3 HD HC
    go_wp2_with fail
    refine C2.out.mono ?_
    rintro e w3 ⟨rfl, S3, g1, g2, g3⟩
    have G4 := Lib.hid g1
    have G5 := Lib.hid g2
    have G6 := Lib.hid g3
    clear g1 g2 g3
    go_wp2
    go_ret
    exact ⟨rfl, _, G4.out, G2.out.trans G5.out G3.out, G3.out.trans G6.out G2.out.size⟩

end Go.Proofs.Ytkkjdpmkiedbiaa
