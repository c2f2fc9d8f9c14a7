/-
  What Take and Give of the document's answer for layer 9 return. Condition: it lies where the argument says.
-/
import Derived.Test.YtebgkoimphjagaaSn
namespace Go.Proofs.Ytebgkoimphjagaa
open Go.RowKit
set_option maxRecDepth 100000

/-- A cell of another kind of block is stored. -/
theorem OwnL.box {base m : Nat} {w : World} {r : Rw} {vs : List Int} {is : List Bool} {fr : List Nat} (h : OwnL base w r m vs is fr) {p : Addr} {cs : Array Value} (hx : w.heap[p.block]? = some (.cells cs 29 (0, 0))) (u : Value) : OwnL base (w.setCell p u) r m vs is fr := by
  obtain ⟨a, b, c, d, e, f⟩ := h
  refine ⟨ownsRow_setCell_other a (fun e1 => ?_) _, ownsRow_setCell_other b (fun e1 => ?_) _, ownsRow_setCell_other c (fun e1 => ?_) _, d, e, f⟩
  · obtain ⟨c2, k2⟩ := own_heap a e1
    rw [hx] at k2
    simp at k2
  · obtain ⟨c2, k2⟩ := own_heap b e1
    rw [hx] at k2
    simp at k2
  · obtain ⟨c2, k2⟩ := own_heap c e1
    rw [hx] at k2
    simp at k2
theorem take_fr_nil {s : Sl} (h : s.fr = []) (hm : ¬ s.pl.length = s.most) (x : Int) : s.nxt = some s.pl.length ∧ (s.take x).fr = [] ∧ (s.take x).pl.length = s.pl.length + 1 ∧ s.tookI = s.pl.length ∧ s.took = true := by
  have e : s.nxt = some s.pl.length := by unfold Sl.nxt; rw [if_pos h, if_neg hm]
  refine ⟨e, ?_, ?_, by unfold Sl.tookI; rw [e]; rfl, by unfold Sl.took; rw [e]; rfl⟩
  · unfold Sl.take; rw [e]; simp only [Sl.set, Sl.out]; rw [if_pos h, if_neg hm]; exact h
  · unfold Sl.take; rw [e]; simp only [Sl.set, Sl.out]; rw [if_pos h, if_neg hm]; simp
theorem take_fr_cons {s : Sl} {fr' : List Nat} {i : Nat} (h : s.fr = fr' ++ [i]) (x : Int) : s.nxt = some i ∧ (s.take x).fr = fr' ∧ (s.take x).pl.length = s.pl.length ∧ s.tookI = i ∧ s.took = true := by
  have hn : ¬ s.fr = [] := by rw [h]; simp
  have e : s.nxt = some i := by unfold Sl.nxt; rw [if_neg hn, h]; simp
  refine ⟨e, ?_, ?_, by unfold Sl.tookI; rw [e]; rfl, by unfold Sl.took; rw [e]; rfl⟩
  · unfold Sl.take; rw [e]; simp only [Sl.set, Sl.out]; rw [if_neg hn, h]; simp
  · unfold Sl.take; rw [e]; simp only [Sl.set, Sl.out]; rw [if_neg hn]; simp

set_option maxHeartbeats 2000000 in
set_option maxHeartbeats 2000000 in
theorem rtake_any (w : World) (r : Rw) (s : Sl) (h : RfS w r s) (hk : s.Ok) (hb : ∀ b, r.blk b → b < w.heap.size) (x : Int) :
    Calls Try.prog 12 #[r.v s, .int .i64 x] w (RfPost w r (s.take x) (fun v => .tuple #[v, .int .i64 s.tookI, .bool s.took])) := by
  have ho := fun W (hb : Below w.heap.size w W) => rown_any W r s (h.keep hb) hk
  have k1 := hk.most
  have k2 := hk.pl
  have k3 := hk.frLe
  have HR := Lib.hid h
  have HB := Lib.hid hb
  have HO := Lib.hid ho
  have HK := Lib.hid hk
  clear h hk ho hb
  unfold Rw.v Rw.va Rw.vb Rw.vc at *
  go_enter Try.func12, Try.ntmps12
  go_upto_region 1 with fail
  generalize hW : World.alloc _ _ = W
  have hB0 : Below w.heap.size w W := by subst hW; go_grown
  have x1 : W.heap[w.heap.size]? = some (.cells #[.slice r.A s.most r.ca, .slice r.B s.most r.cb, .slice r.C s.fr.length r.cc, .int .i64 s.pl.length] 29 (0, 0)) := by subst hW; exact hp_old (by simp) (hp_new rfl)
  have x2 : W.heap[w.heap.size + 1]? = some (.cells #[.slice none 0 0, .slice none 0 0, .slice none 0 0, .int .i64 0] 29 (0, 0)) := by subst hW; exact hp_new (by simp)
  clear hW
  obtain ⟨p0, p1, p2, p3, -⟩ := four x1
  go_wp2_with fail
  refine (HO.out _ hB0).mono ?_
  rintro e w2 ⟨r2, rfl, ho2, b2⟩
  have hw2 := below_of (w := w) hB0 b2
  have y1 := (b2.block w.heap.size (lt_of_block x1)).trans x1
  have y2 := (b2.block (w.heap.size + 1) (lt_of_block x2)).trans x2
  have HZ : Hid (w.heap.size + 1 < W.heap.size) := Lib.hid (lt_of_block x2)
  clear p0 p1 p2 p3
  obtain ⟨p0, p1, p2, p3, -, -, -, -, pz⟩ := four y1
  obtain ⟨q0, q1, q2, q3, f0, f1, f2, f3, qz⟩ := four y2
  obtain ⟨A, ca, B, cb, C, cc⟩ := r2
  have HO2 := Lib.hid ho2
  have hWz := hB0.size
  by_cases hf : s.fr = []
  · have hf0 : s.fr.length = 0 := by rw [hf]; rfl
    have t1 : decide ((0 : Int) < (s.fr.length : Int)) = false := by simp [hf]
    have t1' : decide (0 < s.fr.length) = false := by simp [hf]
    have t1'' : decide (s.fr = []) = true := by simp [hf]
    by_cases hm : s.pl.length = s.most
    · have t2 : decide ((s.most : Int) ≤ (s.pl.length : Int)) = true := by simp [hm]
      have t2' : decide (s.most ≤ s.pl.length) = true := by simp [hm]
      have e0 : s.nxt = none := by unfold Sl.nxt; rw [if_pos hf, if_pos hm]
      have HE := Lib.hid (show s.take x = s ∧ s.tookI = 0 ∧ s.took = false from ⟨take_none e0 x, by unfold Sl.tookI; rw [e0]; rfl, by unfold Sl.took; rw [e0]; rfl⟩)
      clear hf hm e0 x1 x2 y1 y2 ho2 b2 k2 k3 hf0
      unfold Rw.va Rw.vb Rw.vc
      simp only
      go_wp2
      refine bodyPost_ret (v := .tuple #[.agg #[.slice r.A s.most r.ca, .slice r.B s.most r.cb, .slice r.C s.fr.length r.cc, .int .i64 s.pl.length], .int .i64 0, .bool false]) (by simp [*, results, Try.results12, go_sem] <;> rfl) rfl ?_
      have hf := (below_put4 (b := w.heap.size + 1) (y0 := .slice r.A s.most r.ca) (y1 := .slice r.B s.most r.cb) (y2 := .slice r.C s.fr.length r.cc) (y3 := .int .i64 s.pl.length) hw2 (Nat.le_succ _)).alloc (by have := hw2.size; simp; omega) (.cells #[.slice A s.most ca, .slice B s.most cb, .slice C s.fr.length cc, .int .i64 s.pl.length] 29)
      rw [HE.out.1, HE.out.2.1, HE.out.2.2]
      exact ⟨r, rfl, (HR.out.same HB.out hf).1, (HR.out.same HB.out hf).2, hf⟩
    · have t2 : decide ((s.most : Int) ≤ (s.pl.length : Int)) = false := by simp; omega
      have t2' : decide (s.most ≤ s.pl.length) = false := by simp; omega
      have hlm : s.pl.length < s.most := by omega
      obtain ⟨hi, n1, n2, n3, n4⟩ := take_fr_nil hf hm x
      have hat := take_atN HK.out hi x
      have HV := Lib.hid (And.intro (vsS_set (take_most s x) _ _ hat) (isS_set (take_most s x) _ _ hat))
      have HE := Lib.hid (And.intro n1 (And.intro n2 (And.intro n3 n4)))
      obtain ⟨gA, gB, eA, eB, a1, a2, b3, b4, hne, cA, cB, fA, fB⟩ := ho2.place hlm
      simp only at eA eB
      subst eA eB
      have HF := Lib.hid hf
      have HY := Lib.hid y2
      have hq1 : ¬ gA = w.heap.size + 1 := by have := HZ.out; omega
      have hq2 : ¬ gB = w.heap.size + 1 := by have := HZ.out; omega
      have hq3 : ¬ gB = gA := fun e => hne e.symm
      have hp9 : (s.pl.length : Int) + 1 ≤ 1025 := by omega
      have hlm' : (s.pl.length : Int) < (s.most : Int) := by omega
      clear hf hm x1 x2 y1 y2 ho2 b2 k3 hi n1 n2 n3 n4 hat hf0
      unfold Rw.va Rw.vb Rw.vc
      simp only
      go_upto_region 11 with fail
      generalize hX : World.alloc (World.setCell (World.setCell w2 _ _) _ _) _ = X
      have hL : OwnL W.heap.size X ⟨some ⟨gA, 0, none⟩, ca, some ⟨gB, 0, none⟩, cb, C, cc⟩ s.most ((vsS s).set s.pl.length x) ((isS s).set s.pl.length true) s.fr := by subst hX; exact ((HO2.out.toL.setA rfl hlm x).setB rfl hlm true).keep ((Below.refl _ _).alloc (Nat.le_refl _) _)
      have z1 : X.heap[w2.heap.size]? = some (.cells #[.slice (some ⟨gA, 0, none⟩) s.most ca, .slice (some ⟨gB, 0, none⟩) s.most cb, .slice C s.fr.length cc, .int .i64 ((s.pl.length : Int) + 1)] 29 (0, 0)) := by subst hX; exact hp_new (by simp)
      have z2 : X.heap[w.heap.size + 1]? = some (.cells #[.slice none 0 0, .slice none 0 0, .slice none 0 0, .int .i64 0] 29 (0, 0)) := by subst hX; exact hp_old (by simp; exact qz) ((Below.heap_setCell _ _ _ _ (fun e => hq2 e.symm)).trans ((Below.heap_setCell _ _ _ _ (fun e => hq1 e.symm)).trans HY.out))
      have hBX : Below w.heap.size w X := by subst hX; exact ((hw2.setCell (p := ⟨gA, s.pl.length, none⟩) (by simp only; omega) _).setCell (p := ⟨gB, s.pl.length, none⟩) (by simp only; omega) _).alloc (by simp; omega) _
      have hXz : ¬ w.heap.size + 1 = w2.heap.size := by omega
      clear hX q0 q1 q2 q3 f0 f1 f2 f3 cA cB fA fB
      obtain ⟨p0, p1, p2, p3, -⟩ := four z1
      obtain ⟨q0, q1, q2, q3, f0, f1, f2, f3, -⟩ := four z2
      have HL := Lib.hid hL
      clear z1 z2 hL
      go_wp2
      refine bodyPost_ret (v := .tuple #[.agg #[.slice (some ⟨gA, 0, none⟩) s.most ca, .slice (some ⟨gB, 0, none⟩) s.most cb, .slice C s.fr.length cc, .int .i64 ((s.pl.length : Int) + 1)], .int .i64 s.pl.length, .bool true]) (by simp [*, results, Try.results12, go_sem] <;> rfl) rfl ?_
      have hL2 := HL.out.far4 HZ.out (.slice (some ⟨gA, 0, none⟩) s.most ca) (.slice (some ⟨gB, 0, none⟩) s.most cb) (.slice C s.fr.length cc) (.int .i64 ((s.pl.length : Int) + 1))
      have hp := hL2.post (w := w) (r := r) (s' := s.take x) hWz (take_most s x) HV.out.1 HV.out.2 (HE.out.1.trans HF.out.symm)
      refine ⟨_, ?_, hp.1, hp.2, below_put4 hBX (Nat.le_succ _)⟩
      unfold Rw.v Rw.va Rw.vb Rw.vc
      rw [take_most, HE.out.1, HE.out.2.1, HE.out.2.2.1, HE.out.2.2.2, HF.out]
      simp
  · obtain ⟨fr', i, hfr⟩ : ∃ fr' i, s.fr = fr' ++ [i] := ⟨s.fr.dropLast, s.fr.getLast hf, (List.dropLast_concat_getLast hf).symm⟩
    have e1 : s.fr.length = fr'.length + 1 := by rw [hfr]; simp
    obtain ⟨hi, n1, n2, n3, n4⟩ := take_fr_cons hfr x
    have hil : i < s.most := (nxt_free HK.out hi).2
    have hat := take_atN HK.out hi x
    have HV := Lib.hid (And.intro (vsS_set (take_most s x) _ _ hat) (isS_set (take_most s x) _ _ hat))
    have HE := Lib.hid (And.intro n1 (And.intro n2 (And.intro n3 n4)))
    obtain ⟨gA, gB, eA, eB, a1, a2, b3, b4, hne, cA, cB, fA, fB⟩ := ho2.place hil
    simp only at eA eB
    subst eA eB
    have hoC := ho2.2.2.1
    unfold Rw.vc at hoC
    obtain ⟨gC, cc', e2, -, gCz⟩ := hoC.form (by omega)
    simp only [Value.slice.injEq, true_and] at e2
    obtain ⟨rfl, rfl⟩ := e2
    have hcc : fr'.length + 1 ≤ cc := by
      obtain ⟨A', c', e3, hc'⟩ := own_val hoC
      simp only [Value.slice.injEq] at e3
      omega
    have cC : w2.cell? ⟨gC, fr'.length, none⟩ = some (.int .i64 (i : Int)) := by
      obtain ⟨g', off', e3, -, e4⟩ := KN_rd ho2.to.1.C (show fr'.length < s.fr.length by omega)
      simp only [Option.some.injEq, Addr.mk.injEq, and_true] at e3
      obtain ⟨rfl, rfl⟩ := e3
      rw [Nat.zero_add] at e4
      rw [e4]
      simp [hfr]
    have hL0 := ho2.toL
    rw [hfr] at hL0
    have HL0 := Lib.hid hL0.cut
    have HY := Lib.hid y2
    have hq1 : ¬ gA = w.heap.size + 1 := by have := HZ.out; omega
    have hq2 : ¬ gB = w.heap.size + 1 := by have := HZ.out; omega
    have hq3 : ¬ gB = gA := fun e => hne e.symm
    have hil' : (i : Int) < (s.most : Int) := by omega
    have hl9 : (fr'.length : Int) + 1 ≤ 1025 := by omega
    have t1 : decide (0 < fr'.length + 1) = true := by simp
    unfold Rw.va Rw.vb Rw.vc
    simp only
    have HE1 := Lib.hid e1
    generalize hnL : s.fr.length = nL at e1
    subst e1
    clear hf hfr hi n1 n2 n3 n4 hat hoC hL0 x1 x2 y1 y2 ho2 b2 k3
    go_upto_region 11 with fail
    generalize hX : World.alloc (World.setCell (World.setCell w2 _ _) _ _) _ = X
    have hL : OwnL W.heap.size X ⟨some ⟨gA, 0, none⟩, ca, some ⟨gB, 0, none⟩, cb, some ⟨gC, 0, none⟩, cc⟩ s.most ((vsS s).set i x) ((isS s).set i true) fr' := by subst hX; exact ((HL0.out.setA rfl hil x).setB rfl hil true).keep ((Below.refl _ _).alloc (Nat.le_refl _) _)
    have z1 : X.heap[w2.heap.size]? = some (.cells #[.slice (some ⟨gA, 0, none⟩) s.most ca, .slice (some ⟨gB, 0, none⟩) s.most cb, .slice (some ⟨gC, 0, none⟩) fr'.length cc, .int .i64 (s.pl.length : Int)] 29 (0, 0)) := by subst hX; exact hp_new (by simp)
    have z2 : X.heap[w.heap.size + 1]? = some (.cells #[.slice none 0 0, .slice none 0 0, .slice none 0 0, .int .i64 0] 29 (0, 0)) := by subst hX; exact hp_old (by simp; exact qz) ((Below.heap_setCell _ _ _ _ (fun e => hq2 e.symm)).trans ((Below.heap_setCell _ _ _ _ (fun e => hq1 e.symm)).trans HY.out))
    have hBX : Below w.heap.size w X := by subst hX; exact ((hw2.setCell (p := ⟨gA, i, none⟩) (by simp only; omega) _).setCell (p := ⟨gB, i, none⟩) (by simp only; omega) _).alloc (by simp; omega) _
    have hXz : ¬ w.heap.size + 1 = w2.heap.size := by omega
    clear hX q0 q1 q2 q3 f0 f1 f2 f3 cA cB cC fA fB p0 p1 p2 p3
    obtain ⟨p0, p1, p2, p3, -⟩ := four z1
    obtain ⟨q0, q1, q2, q3, f0, f1, f2, f3, -⟩ := four z2
    have HL := Lib.hid hL
    clear z1 z2 hL
    go_wp2
    refine bodyPost_ret (v := .tuple #[.agg #[.slice (some ⟨gA, 0, none⟩) s.most ca, .slice (some ⟨gB, 0, none⟩) s.most cb, .slice (some ⟨gC, 0, none⟩) fr'.length cc, .int .i64 (s.pl.length : Int)], .int .i64 i, .bool true]) (by simp [*, results, Try.results12, go_sem] <;> rfl) rfl ?_
    have hL2 := HL.out.far4 HZ.out (.slice (some ⟨gA, 0, none⟩) s.most ca) (.slice (some ⟨gB, 0, none⟩) s.most cb) (.slice (some ⟨gC, 0, none⟩) fr'.length cc) (.int .i64 (s.pl.length : Int))
    have hp := hL2.post (w := w) (r := r) (s' := s.take x) hWz (take_most s x) HV.out.1 HV.out.2 HE.out.1
    refine ⟨_, ?_, hp.1, hp.2, below_put4 hBX (Nat.le_succ _)⟩
    unfold Rw.v Rw.va Rw.vb Rw.vc
    rw [take_most, HE.out.1, HE.out.2.1, HE.out.2.2.1, HE.out.2.2.2]

end Go.Proofs.Ytebgkoimphjagaa
