/-
  What Give of the document's answer for layer 9 returns. Condition: it lies where the argument says.
-/
import Derived.Test.YtebgkoimphjagaaSo
namespace Go.Proofs.Ytebgkoimphjagaa
open Go.RowKit
set_option maxRecDepth 100000

set_option maxHeartbeats 2000000 in
theorem rgive_any (w : World) (r : Rw) (s : Sl) (h : RfS w r s) (hk : s.Ok) (hb : ∀ b, r.blk b → b < w.heap.size) (i : Int) :
    Calls Try.prog 14 #[r.v s, .int .i64 i] w (RfPost w r (s.give i) (fun v => .tuple #[v, .bool (s.has i)])) := by
  have hc := fun W (hb : Below w.heap.size w W) => rhas_any W r s (h.keep hb) hk i
  have ho := fun W (hb : Below w.heap.size w W) => rown_any W r s (h.keep hb) hk
  have k1 := hk.most
  have k2 := hk.pl
  have k3 := hk.frLe
  have HR := Lib.hid h
  have HB := Lib.hid hb
  cases hh : s.has i
  · have HE : Hid (s.give i = s) := Lib.hid (give_no hh)
    rw [hh] at hc
    have HC := Lib.hid hc
    clear h hk hc hh ho hb
    unfold Rw.v Rw.va Rw.vb Rw.vc at *
    go_enter Try.func14, Try.ntmps14
    go_wp2_with fail
    refine (HC.out _ (by go_grown)).mono ?_
    rintro e w1 ⟨rfl, b1⟩
    have hw := below_of (w := w) (by go_grown) b1
    have x1 := (b1.block w.heap.size (by simp; omega)).trans (hp_old (by simp) (hp_new rfl))
    have x2 := (b1.block (w.heap.size + 1) (by simp)).trans (hp_new (by simp))
    obtain ⟨p0, p1, p2, p3, -⟩ := four x1
    obtain ⟨q0, q1, q2, q3, f0, f1, f2, f3, qz⟩ := four x2
    clear b1 x1 x2
    go_wp2
    refine bodyPost_ret (v := .tuple #[.agg #[.slice r.A s.most r.ca, .slice r.B s.most r.cb, .slice r.C s.fr.length r.cc, .int .i64 s.pl.length], .bool false]) (by simp [*, results, Try.results14, go_sem] <;> rfl) rfl ?_
    have hf := below_put4 (b := w.heap.size + 1) (y0 := .slice r.A s.most r.ca) (y1 := .slice r.B s.most r.cb) (y2 := .slice r.C s.fr.length r.cc) (y3 := .int .i64 s.pl.length) hw (Nat.le_succ _)
    rw [HE.out]
    exact ⟨r, rfl, (HR.out.same HB.out hf).1, (HR.out.same HB.out hf).2, hf⟩
  · obtain ⟨i0, i1, i2⟩ := has_bd hh
    obtain ⟨k, rfl⟩ := Int.eq_ofNat_of_zero_le i0
    rw [Int.toNat_natCast] at i1 i2
    have hat := give_atN hh
    rw [Int.toNat_natCast] at hat
    have hlm : k < s.most := by omega
    have HV := Lib.hid (And.intro (vsS_set (give_most s k) k plz hat) (isS_set (give_most s k) k plz hat))
    have HF := Lib.hid (show (s.give k).fr = s.fr ++ [k] ∧ (s.give k).pl.length = s.pl.length by unfold Sl.give; rw [if_pos hh]; simp [Sl.set])
    rw [hh] at hc
    have HC := Lib.hid hc
    have HO := Lib.hid ho
    clear h hk hc hh ho hb i2 hat
    unfold Rw.v Rw.va Rw.vb Rw.vc at *
    go_enter Try.func14, Try.ntmps14
    go_wp2_with fail
    refine (HC.out _ (by go_grown)).mono ?_
    rintro e w1 ⟨rfl, b1⟩
    have hw := below_of (w := w) (by go_grown) b1
    have x1 := (b1.block w.heap.size (by simp; omega)).trans (hp_old (by simp) (hp_new rfl))
    have x2 := (b1.block (w.heap.size + 1) (by simp)).trans (hp_new (by simp))
    obtain ⟨p0, p1, p2, p3, -⟩ := four x1
    clear b1 x1
    go_wp2_with fail
    refine (HO.out _ hw).mono ?_
    rintro e w2 ⟨r2, rfl, ho2, b2⟩
    have hw2 := below_of (w := w) hw b2
    have x3 := (b2.block (w.heap.size + 1) (lt_of_block x2)).trans x2
    have qz : w.heap.size + 1 < w2.heap.size := lt_of_block x3
    obtain ⟨gA, gB, eA, eB, a1, a2, b3, b4, hne, cA, cB, fA, fB⟩ := ho2.place hlm
    obtain ⟨A, ca, B, cb, C, cc⟩ := r2
    simp only at eA eB
    subst eA eB
    have HO2 := Lib.hid ho2
    have HY := Lib.hid x3
    have HZ : Hid (w.heap.size + 1 < w1.heap.size) := Lib.hid (lt_of_block x2)
    have hWz : w.heap.size ≤ w1.heap.size := hw.size
    have hq1 : ¬ gA = w.heap.size + 1 := by have := HZ.out; omega
    have hq2 : ¬ gB = w.heap.size + 1 := by have := HZ.out; omega
    have hq3 : ¬ gB = gA := fun e => hne e.symm
    clear x2 x3 p0 p1 p2 p3 ho2 b2
    unfold Rw.va Rw.vb Rw.vc
    simp only
    go_upto_region 6 with fail
    generalize hX : World.alloc (World.setCell (World.setCell w2 _ _) _ _) _ = X
    have hL : OwnL w1.heap.size X ⟨some ⟨gA, 0, none⟩, ca, some ⟨gB, 0, none⟩, cb, C, cc⟩ s.most ((vsS s).set k 0) ((isS s).set k false) s.fr := by subst hX; exact ((HO2.out.toL.setB rfl hlm false).setA rfl hlm 0).keep ((Below.refl _ _).alloc (Nat.le_refl _) _)
    have z1 : X.heap[w2.heap.size]? = some (.cells #[.slice (some ⟨gA, 0, none⟩) s.most ca, .slice (some ⟨gB, 0, none⟩) s.most cb, .slice C s.fr.length cc, .int .i64 (s.pl.length : Int)] 29 (0, 0)) := by subst hX; exact hp_new (by simp)
    have z2 : X.heap[w.heap.size + 1]? = some (.cells #[.slice none 0 0, .slice none 0 0, .slice none 0 0, .int .i64 0] 29 (0, 0)) := by subst hX; exact hp_old (by simp; exact qz) ((Below.heap_setCell _ _ _ _ (fun e => hq1 e.symm)).trans ((Below.heap_setCell _ _ _ _ (fun e => hq2 e.symm)).trans HY.out))
    have hBX : Below w.heap.size w X := by subst hX; exact ((hw2.setCell (p := ⟨gB, k, none⟩) (by simp only; omega) _).setCell (p := ⟨gA, k, none⟩) (by simp only; omega) _).alloc (by simp; omega) _
    have hXz : ¬ w.heap.size + 1 = w2.heap.size := by omega
    have hXs : w1.heap.size ≤ X.heap.size := by subst hX; simp; omega
    clear hX cA cB fA fB
    obtain ⟨p0, p1, p2, p3, g0, g1, g2, g3, pz⟩ := four z1
    have HL := Lib.hid hL
    have HZ1 := Lib.hid z1
    have HZ2 := Lib.hid z2
    have hne1 : (Value.slice C s.fr.length cc).ownBlock ≠ some w2.heap.size := fun e => by
      obtain ⟨c2, k2⟩ := own_heap HL.out.C e
      rw [HZ1.out] at k2
      simp at k2
    have hne2 : (Value.slice C s.fr.length cc).ownBlock ≠ some (w.heap.size + 1) := fun e => by
      obtain ⟨c2, k2⟩ := own_heap HL.out.C e
      rw [HZ2.out] at k2
      simp at k2
    clear z1 z2 hL
    have hwz2 : w2.heap.size < X.heap.size := pz
    have qzX : w.heap.size + 1 < X.heap.size := lt_of_block HZ2.out
    go_wp2_with (
      at_builtin
      refine Kd.wpList_one KN_ty rfl (.tmp 23) (.tmp 25) rfl w1.heap.size _ s.fr.length s.fr rfl (by rfl) (HL.out.C.alloc _) X.heap.size k (by rfl) (hp_new rfl) (by omega) (by simp; omega) ?_
      intro A' c' w3 hG
      have y1 := (hG.2.1.block w2.heap.size (by simp; omega) (fun e => hne1 e.symm)).trans (hp_old hwz2 HZ1.out)
      have y2 := (hG.2.1.block (w.heap.size + 1) (by simp; omega) (fun e => hne2 e.symm)).trans (hp_old qzX HZ2.out)
      have HL3 := Lib.hid ((HL.out.keep ((Below.refl _ _).alloc (Nat.le_refl _) _)).more (by omega) hG rfl)
      have hB3 : Below w.heap.size w w3 := (hBX.alloc (Nat.le_trans hWz hXs) _).trans (hG.2.2.2.mono hWz)
      have HY1 := Lib.hid y1
      clear p0 p1 p2 p3 g0 g1 g2 g3 pz
      obtain ⟨p0, p1, p2, p3, g0, g1, g2, g3, pz⟩ := four y1
      obtain ⟨q0, q1, q2, q3, f0, f1, f2, f3, qz3⟩ := four y2
      clear hG y1 y2
      )
    refine bodyPost_ret (v := .tuple #[.agg #[.slice (some ⟨gA, 0, none⟩) s.most ca, .slice (some ⟨gB, 0, none⟩) s.most cb, .slice A' (s.fr.length + 1) c', .int .i64 (s.pl.length : Int)], .bool true]) (by simp [*, results, Try.results14, go_sem] <;> rfl) rfl ?_
    have hL2 := (HL3.out.box (p := ⟨w2.heap.size, 2, none⟩) HY1.out (.slice A' (s.fr.length + 1) c')).far4 HZ.out (.slice (some ⟨gA, 0, none⟩) s.most ca) (.slice (some ⟨gB, 0, none⟩) s.most cb) (.slice A' (s.fr.length + 1) c') (.int .i64 (s.pl.length : Int))
    have hp := hL2.post (w := w) (r := r) (s' := s.give k) hWz (give_most s k) HV.out.1 HV.out.2 HF.out.1
    refine ⟨_, ?_, hp.1, hp.2, below_put4 (hB3.setCell (p := ⟨w2.heap.size, 2, none⟩) (by simp only; omega) _) (Nat.le_succ _)⟩
    unfold Rw.v Rw.va Rw.vb Rw.vc
    rw [give_most, HF.out.1, HF.out.2]
    simp

end Go.Proofs.Ytebgkoimphjagaa
