/-
  What below and Under of package trie return. Condition: the tree lies at the pointer's block.
-/
import Derived.Test.YtcbfppangiopeaaGreatZj
import Derived.Test.YtcbfppangiopeaaGreatYb
namespace Go.Proofs.YtcbfppangiopeaaGreat
open Go.RowKit
set_option maxRecDepth 100000

@[simp] theorem idx_kids0 (a b : Int) (w : World) : (Instr.index 118 (.agg #[.int .i64 a, .int .i64 b]) (.int .i64 0)).run Tryz.prog w = .ok (.int .i64 a) w := by
  have hs : (Tryz.prog.info? 3).map (·.size) = some 1 := by kernel_rfl
  obtain ⟨i, hi, h1⟩ := Option.map_eq_some_iff.1 hs
  simp [Instr.index, run_underlying Tryz.underlying118, sizeOf, typeInfo, hi, h1, asIntOf, part, go_sem]
@[simp] theorem idx_kids1 (a b : Int) (w : World) : (Instr.index 118 (.agg #[.int .i64 a, .int .i64 b]) (.int .i64 1)).run Tryz.prog w = .ok (.int .i64 b) w := by
  have hs : (Tryz.prog.info? 3).map (·.size) = some 1 := by kernel_rfl
  obtain ⟨i, hi, h1⟩ := Option.map_eq_some_iff.1 hs
  simp [Instr.index, run_underlying Tryz.underlying118, sizeOf, typeInfo, hi, h1, asIntOf, part, go_sem]
@[simp] theorem int_cells (h : 3 < Tryz.prog.types.size) : (Tryz.prog.types[3]'h).size = 1 := by
  have hs : (Tryz.prog.types[3]?).map (·.size) = some 1 := by kernel_rfl
  rw [Array.getElem?_eq_getElem h] at hs
  simpa using hs
/-- What lies below a node, in order. -/
def belowF (T : Tr) : Nat → Pf → Nat → List Pr
  | 0, _, _ => []
  | f + 1, p, i => shown T p i ++ (if (T.ar.getD i nd0).k0 = 0 then [] else belowF T f (pchild p 0).1 (T.ar.getD i nd0).k0) ++ (if (T.ar.getD i nd0).k1 = 0 then [] else belowF T f (pchild p 1).1 (T.ar.getD i nd0).k1)
/-- At the head of a round of below. -/
def BelowRel (w0 w : World) (t b q' : Nat) (vA vF : Value) (T : Tr) (p : Pf) (l : List Pr) (ks : Nat → List Pr) (S : Nat → Prop) (n : Value) (wr : World) : Prop :=
  ∃ (k : Nat) (S' : Nat → Prop), k ≤ 2 ∧ n = .int .i64 k ∧ UnderI w0 t b q' (l ++ ks k) S' wr ∧ TrA wr t vA vF T ∧ PBox wr w.heap.size p ∧ ¬ S' w.heap.size ∧ Frm S w wr ∧ Sub S S' w.heap.size
theorem UnderI.apart {w0 wr : World} {t b q' : Nat} {l : List Pr} {S : Nat → Prop} (h : UnderI w0 t b q' l S wr) : ∀ x, S x → b < x ∧ x < wr.heap.size := by
  obtain ⟨v, rfl, hbq, -, -, h1, h2⟩ := h
  rintro x (rfl | hx)
  · exact ⟨by omega, lt_of_block h1⟩
  · have := own_ge h2 x hx
    exact ⟨by omega, (h2.lt x hx).2⟩
theorem UnderI.keep {w0 w1 w2 : World} {t b q' : Nat} {l : List Pr} {S : Nat → Prop} (h : UnderI w0 t b q' l S w1) (hb : Below w1.heap.size w1 w2) : UnderI w0 t b q' l S w2 := by
  obtain ⟨v, rfl, hbq, hB, hTb, h1, h2⟩ := h
  exact ⟨v, rfl, hbq, hB.trans (hb.mono (by have := lt_of_block h1; omega)), (hb.block _ (lt_of_block hTb)).trans hTb, (hb.block _ (lt_of_block h1)).trans h1, own_block h2 (fun b _ hl => hb.block b hl)⟩
def BelowPost (w0 w : World) (t b q' : Nat) (l : List Pr) (S : Nat → Prop) (e : Ending) (w' : World) : Prop := e = .returned (.tuple #[]) ∧ ∃ S', UnderI w0 t b q' l S' w' ∧ Frm S w w' ∧ Sub S S' w.heap.size

set_option maxHeartbeats 8000000 in
theorem below_any (w0 : World) (t b q' : Nat) (vA vF : Value) (T : Tr) (hW : Wf T) (hD : Deep T) (hlt : ∀ x, foot t vA vF x → x < b) : ∀ (f : Nat) (w : World) (p : Pf) (i : Nat) (l : List Pr) (S : Nat → Prop), psane p = true → nodeAt T.ar p.a p.n.toNat = some i → wd p.a.v6 - p.n.toNat < f →
    l.length + (belowF T f p i).length ≤ 1000000000 → UnderI w0 t b q' l S w → TrA w t vA vF T →
    Calls Tryz.prog 71 #[.pointer (some ⟨t, 0, none⟩), .agg #[.int .u64 (u p.a.hi), .int .u64 (u p.a.lo), .bool p.a.v6, .int .i64 p.n], .int .i64 i, .func (.func 72) #[] #[.pointer (some ⟨b, 0, none⟩), .pointer (some ⟨q', 0, none⟩)]] w (BelowPost w0 w t b q' (l ++ belowF T f p i) S) := by
  intro f
  induction f with
  | zero => intro w p i l S _ _ h; omega
  | succ f ih =>
    intro w p i l S hp hi hf hlen hU hT
    have hi' := nodeAt_lt hW _ _ _ hi
    have e0 : T.ar.getD i nd0 = T.ar[i] := by simp [hi']
    obtain ⟨ks, hks⟩ : ∃ ks : Nat → List Pr, ks = fun k => if k = 0 then shown T p i else if k = 1 then shown T p i ++ (if T.ar[i].k0 = 0 then [] else belowF T f (pchild p 0).1 T.ar[i].k0) else shown T p i ++ (if T.ar[i].k0 = 0 then [] else belowF T f (pchild p 0).1 T.ar[i].k0) ++ (if T.ar[i].k1 = 0 then [] else belowF T f (pchild p 1).1 T.ar[i].k1) := ⟨_, rfl⟩
    have hk0 : ks 0 = shown T p i := by rw [hks]; rfl
    have hk1 : ks 1 = ks 0 ++ (if T.ar[i].k0 = 0 then [] else belowF T f (pchild p 0).1 T.ar[i].k0) := by rw [hks]; rfl
    have hk2 : ks 2 = ks 1 ++ (if T.ar[i].k1 = 0 then [] else belowF T f (pchild p 1).1 T.ar[i].k1) := by rw [hks]; rfl
    have hbf : belowF T (f + 1) p i = ks 2 := by
      rw [hk2, hk1, hk0]
      simp only [belowF, e0]
    have hc0 := fun h => kid_child hp hi hD 0 (.inl rfl) h
    have hc1 := fun h => kid_child hp hi hD 1 (.inr rfl) h
    rw [e0] at hc0 hc1
    have hkid0 : kid T.ar[i] 0 = T.ar[i].k0 := rfl
    have hkid1 : kid T.ar[i] 1 = T.ar[i].k1 := rfl
    rw [hkid0] at hc0
    rw [hkid1] at hc1
    rw [hbf] at hlen ⊢
    have hl2 : l.length + (ks 1).length ≤ 1000000000 ∧ l.length + (ks 0).length ≤ 1000000000 := by
      have h1 : (ks 1).length ≤ (ks 2).length := by rw [hk2]; simp
      have h2 : (ks 0).length ≤ (ks 1).length := by rw [hk1]; simp
      omega
    have hb0 := (hU.apart)
    have HU := Lib.hid hU
    have HT := Lib.hid hT
    have HP := Lib.hid hp
    have HK0 := Lib.hid hk0
    have HK1 := Lib.hid hk1
    have HK2 := Lib.hid hk2
    have HC0 := Lib.hid hc0
    have HC1 := Lib.hid hc1
    have IH := Lib.hid ih
    have HLT := Lib.hid hlt
    have HB0 := Lib.hid hb0
    have HLen := Lib.hid hlen
    have HF := Lib.hid hf
    clear ih hU hT hp hks hk0 hk1 hk2 hc0 hc1 hkid0 hkid1 hbf hlt hi hb0 e0 hf
    have HX : Hid (∀ {w' : World} {A n c : Nat}, TrA w' t (.slice (some ⟨A, 0, none⟩) n c) vF T → w'.cell? ⟨A, i * 4, none⟩ = some (.int .i64 T.ar[i].k0) ∧ w'.cell? ⟨A, i * 4 + 1, none⟩ = some (.int .i64 T.ar[i].k1)) := Lib.hid fun h => ⟨(h.nodeAt i hi').1, (h.nodeAt i hi').2.1⟩
    generalize T.ar[i] = x at HK1 HK2 HC0 HC1 HX
    have hx2 : 0 < T.ar.length := by omega
    go_enter Tryz.func71, Tryz.ntmps71
    go_wp2_with fail
    have hb1 : Below w.heap.size w (w.alloc (.cells #[.int .u64 (u p.a.hi), .int .u64 (u p.a.lo), .bool p.a.v6, .int .i64 p.n] 27)) := by go_grown
    refine (under1_any w0 _ t vA vF T (HT.out.keep hb1) hW p b q' i l (by have := hl2.2; omega) S (HU.out.keep hb1) hi').mono ?_
    rintro e w1 ⟨rfl, S1, hU1, hf1, hs1⟩
    have hn0 : ¬ S w.heap.size := fun e => by have := HB0.out _ e; omega
    have hP1 : PBox w1 w.heap.size p := PBox.frm (S := S) (by exact ⟨by go_simp <;> rfl, by go_simp <;> rfl, by go_simp <;> rfl, by go_simp <;> rfl, by go_simp <;> rfl, by go_simp <;> rfl, by go_simp <;> rfl, by go_simp <;> rfl, by go_size⟩) hf1 hn0
    have hn1 : ¬ S1 w.heap.size := fun e => by
      rcases hs1 _ e with q | q
      · exact hn0 q
      · simp at q
        omega
    have hT1 := (HT.out.keep hb1).frm hf1 (fun y hy hS => by have := HB0.out _ hS; have := HLT.out y hy; omega)
    have hF1 := (frm_of_below (S := S) hb1).trans hf1 (Sub.refl _ _)
    have hS1 : Sub S S1 w.heap.size := fun y hy => (hs1 y hy).imp id (fun h => by simp at h; omega)
    rw [← HK0.out] at hU1
    have HU1 := Lib.hid hU1
    have HT1 := Lib.hid hT1
    have z1 := hF1.size
    obtain ⟨c0, -, -, -, -, -, ct⟩ := hT1.head
    obtain ⟨A, c, hvA, hlc, hcm, hAz, hAt, -, -⟩ := hT1.arena hx2
    subst hvA
    obtain ⟨q0, q1⟩ := HX.out hT1
    clear hU1 hT1 hf1 hs1 hb1
    go_wp2_with fail
    go_loopw [24] (fun n wr => BelowRel w0 w t b q' (.slice (some ⟨A, 0, none⟩) T.ar.length c) vF T p l ks S n wr) (fun n _ => (2 - intOf n).toNat)
    case atStart => exact ⟨0, S1, by omega, rfl, HU1.out, HT1.out, hP1, hn1, hF1, hS1⟩
    case round =>
      obtain ⟨k, S', hk, rfl, hU', hT', hP', hn', hF', hS'⟩ := hrel
      have HU' := Lib.hid hU'
      have HT' := Lib.hid hT'
      have HP' := Lib.hid hP'
      obtain ⟨pa, pb, pc, pd, -⟩ := id hP'
      have z' := hF'.size
      clear hU' hT' hP' c0 q0 q1 HU1 HT1 hP1 hF1 hS1 hn1
      rcases (show k = 0 ∨ k = 1 ∨ k = 2 by omega) with rfl | rfl | rfl
      · by_cases hk0 : x.k0 = 0
        · have hz : ((x.k0 : Int) != 0) = false := by simp [hk0]
          have HE : Hid (ks 1 = ks 0) := by rw [HK1.out, if_pos hk0]; exact List.append_nil _
          have HK := Lib.hid hk0
          clear hk0
          go_wp2
          go_roundw
          case rel => exact ⟨1, S', by omega, by go_num, by rw [HE.out]; exact HU'.out, HT'.out, HP'.out, hn', hF', hS'⟩
          case measure => simp [intOf]
        · have hz : ((x.k0 : Int) != 0) = true := by simp; omega
          obtain ⟨g1, g2, g3, g4, g5, g6⟩ := HC0.out hk0
          have HE : Hid (ks 1 = ks 0 ++ belowF T f (pchild p 0).1 x.k0) := by rw [HK1.out, if_neg hk0]; exact rfl
          have HG2 := Lib.hid g2
          have HG3 := Lib.hid g3
          have HG4 := Lib.hid g4
          have HG5 := Lib.hid g5
          have HG6 := Lib.hid g6
          have HK := Lib.hid hk0
          clear g2 g3 g4 g5 g6 hk0
          go_wp2_with fail
          refine (pchild_any p 0 _).mono ?_
          rintro e w5 ⟨rfl, hw5⟩
          have z5 := hw5.size
          have b5 : Below wr.heap.size wr w5 := hw5
          have HU5 := Lib.hid (HU'.out.keep b5)
          have HT5 := Lib.hid (HT'.out.keep b5)
          have HP5 := Lib.hid (HP'.out.keep b5)
          have hF5 := hF'.then b5
          have hap := (HU'.out.apart)
          have HAP := Lib.hid hap
          clear pa pb pc pd hw5 hap
          go_wp2_with fail
          have b6 : Below w5.heap.size w5 (w5.alloc (.cells #[.int .u64 (u (pchild p 0).1.a.hi), .int .u64 (u (pchild p 0).1.a.lo), .bool (pchild p 0).1.a.v6, .int .i64 (pchild p 0).1.n] 27)) := by go_grown
          refine (IH.out _ (pchild p 0).1 x.k0 (l ++ ks 0) S' HG3.out HG4.out (by rw [HG5.out, HG6.out]; have := HF.out; have := wid_wd p.a.v6; have := psane_bd HP.out; omega) (by have e1 := congrArg List.length HE.out; rw [List.length_append] at e1 ⊢; have := HLen.out; have := hl2.1; omega) (HU5.out.keep b6) (HT5.out.keep b6)).mono ?_
          rintro e w7 ⟨rfl, S7, hU7, hf7, hs7⟩
          have hP7 := (HP5.out.keep b6).frm hf7 hn'
          have z6 := b6.size
          have zz := hF5.size
          have hn7 : ¬ S7 w.heap.size := fun e => by
            rcases hs7 _ e with q | q
            · exact hn' q
            · have := HP'.out.2.2.2.2.2.2.2.2
              omega
          have hT7 := (HT5.out.keep b6).frm hf7 (fun y hy hS => by have := HAP.out _ hS; have := HLT.out y hy; omega)
          have hF7 := (hF5.then b6).trans hf7 hS'
          have hS7 : Sub S S7 w.heap.size := hS'.trans hs7 (by omega)
          rw [List.append_assoc, ← HE.out] at hU7
          have HU7 := Lib.hid hU7
          have HT7 := Lib.hid hT7
          clear hU7 hT7 hf7 hs7 b6
          go_wp2
          go_roundw
          case rel => exact ⟨1, S7, by omega, by go_num, HU7.out, HT7.out, hP7, hn7, hF7, hS7⟩
          case measure => simp [intOf]
      · by_cases hk0 : x.k1 = 0
        · have hz : ((x.k1 : Int) != 0) = false := by simp [hk0]
          have HE : Hid (ks 2 = ks 1) := by rw [HK2.out, if_pos hk0]; exact List.append_nil _
          have HK := Lib.hid hk0
          clear hk0
          go_wp2
          go_roundw
          case rel => exact ⟨2, S', by omega, by go_num, by rw [HE.out]; exact HU'.out, HT'.out, HP'.out, hn', hF', hS'⟩
          case measure => simp [intOf]
        · have hz : ((x.k1 : Int) != 0) = true := by simp; omega
          obtain ⟨g1, g2, g3, g4, g5, g6⟩ := HC1.out hk0
          have HE : Hid (ks 2 = ks 1 ++ belowF T f (pchild p 1).1 x.k1) := by rw [HK2.out, if_neg hk0]; exact rfl
          have HG2 := Lib.hid g2
          have HG3 := Lib.hid g3
          have HG4 := Lib.hid g4
          have HG5 := Lib.hid g5
          have HG6 := Lib.hid g6
          have HK := Lib.hid hk0
          clear g2 g3 g4 g5 g6 hk0
          go_wp2_with fail
          refine (pchild_any p 1 _).mono ?_
          rintro e w5 ⟨rfl, hw5⟩
          have z5 := hw5.size
          have b5 : Below wr.heap.size wr w5 := hw5
          have HU5 := Lib.hid (HU'.out.keep b5)
          have HT5 := Lib.hid (HT'.out.keep b5)
          have HP5 := Lib.hid (HP'.out.keep b5)
          have hF5 := hF'.then b5
          have hap := (HU'.out.apart)
          have HAP := Lib.hid hap
          clear pa pb pc pd hw5 hap
          go_wp2_with fail
          have b6 : Below w5.heap.size w5 (w5.alloc (.cells #[.int .u64 (u (pchild p 1).1.a.hi), .int .u64 (u (pchild p 1).1.a.lo), .bool (pchild p 1).1.a.v6, .int .i64 (pchild p 1).1.n] 27)) := by go_grown
          refine (IH.out _ (pchild p 1).1 x.k1 (l ++ ks 1) S' HG3.out HG4.out (by rw [HG5.out, HG6.out]; have := HF.out; have := wid_wd p.a.v6; have := psane_bd HP.out; omega) (by have e1 := congrArg List.length HE.out; rw [List.length_append] at e1 ⊢; have := HLen.out; have := hl2.1; omega) (HU5.out.keep b6) (HT5.out.keep b6)).mono ?_
          rintro e w7 ⟨rfl, S7, hU7, hf7, hs7⟩
          have hP7 := (HP5.out.keep b6).frm hf7 hn'
          have z6 := b6.size
          have zz := hF5.size
          have hn7 : ¬ S7 w.heap.size := fun e => by
            rcases hs7 _ e with q | q
            · exact hn' q
            · have := HP'.out.2.2.2.2.2.2.2.2
              omega
          have hT7 := (HT5.out.keep b6).frm hf7 (fun y hy hS => by have := HAP.out _ hS; have := HLT.out y hy; omega)
          have hF7 := (hF5.then b6).trans hf7 hS'
          have hS7 : Sub S S7 w.heap.size := hS'.trans hs7 (by omega)
          rw [List.append_assoc, ← HE.out] at hU7
          have HU7 := Lib.hid hU7
          have HT7 := Lib.hid hT7
          clear hU7 hT7 hf7 hs7 b6
          go_wp2
          go_roundw
          case rel => exact ⟨2, S7, by omega, by go_num, HU7.out, HT7.out, hP7, hn7, hF7, hS7⟩
          case measure => simp [intOf]
      · go_wp2
        go_end0
        exact ⟨rfl, S', HU'.out, hF', hS'⟩

end Go.Proofs.YtcbfppangiopeaaGreat
