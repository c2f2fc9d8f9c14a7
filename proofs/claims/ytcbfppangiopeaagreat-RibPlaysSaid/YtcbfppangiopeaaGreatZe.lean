/-
  What grow and Put of package trie do. Condition: the tree lies at the pointer's block.
-/
import Derived.Test.YtcbfppangiopeaaGreatZd
namespace Go.Proofs.YtcbfppangiopeaaGreat
open Go.RowKit
set_option maxRecDepth 100000

def setKid (x : Nd) (d : Int) (i : Nat) : Nd := if d = 1 then { x with k1 := i } else { x with k0 := i }
def stepT (T : Tr) (i : Nat) (d : Int) : Tr := { takeT T with ar := (takeT T).ar.set i (setKid ((takeT T).ar.getD i nd0) d (takeI T)) }
/-- So many nodes more, one below the other. -/
def growF (a : Ad) : Nat → Tr → Nat → Nat → Tr × Nat
  | 0, T, i, _ => (T, i)
  | f + 1, T, i, k => growF a f (stepT T i (bitv a k)) (takeI T) (k + 1)

theorem ndv_set (l : List Nd) (i : Nat) (h : i < l.length) (x : Nd) (j : Nat) (u : Value) (hx : (nd4 l[i]).set j u = nd4 x) (hj : j < 4) : (ndv l).set (i * 4 + j) u = ndv (l.set i x) := by
  induction l generalizing i with
  | nil => cases h
  | cons r l ih =>
    have e0 : ∀ r l, ndv (r :: l) = nd4 r ++ ndv l := fun r l => by rw [show r :: l = [r] ++ l from rfl, ndv_append, ndv_one]
    rw [e0]
    cases i with
    | zero =>
      simp only [List.getElem_cons_zero] at hx
      rw [List.set_append_left _ _ (by simp [nd4]; omega), List.set_cons_zero, e0, ← hx]
      simp
    | succ i =>
      simp only [List.getElem_cons_succ] at hx
      have e : (i + 1) * 4 + j - (nd4 r).length = i * 4 + j := by simp [nd4]; omega
      rw [List.set_append_right _ _ (by simp [nd4]; omega), e, ih i (by simpa using h) hx, List.set_cons_succ, e0]
/-- A cell of a node is stored. -/
theorem TrA.stored {w : World} {t A n c : Nat} {vF : Value} {T : Tr} (h : TrA w t (.slice (some ⟨A, 0, none⟩) n c) vF T) (hn : n = T.ar.length) (i j : Nat) (hi : i < T.ar.length) (hj : j < 4) (x : Nd) (u : Value) (hx : (nd4 T.ar[i]).set j u = nd4 x) :
    TrA (w.setCell ⟨A, i * 4 + j, none⟩ u) t (.slice (some ⟨A, 0, none⟩) n c) vF { T with ar := T.ar.set i x } := by
  subst hn
  obtain ⟨a1, a2, a3⟩ := h.apart
  have ha : A ≠ t := fun e => a1 (by simp [Value.ownBlock, e])
  refine ⟨(Below.heap_setCell _ _ _ _ (fun e => ha e.symm)).trans h.1, ?_, ?_⟩
  · have := (h.2.1.stored (i * 4 + j) u).1
    rw [ndv_set _ _ hi x j u hx hj] at this
    simpa using this
  · exact ownsRow_setCell_other h.2.2 (fun e => a3 A rfl e) _
theorem TrA.kidset {w : World} {t A n c : Nat} {vF : Value} {T : Tr} (h : TrA w t (.slice (some ⟨A, 0, none⟩) n c) vF T) (hn : n = T.ar.length) (j : Nat) (hj : j < T.ar.length) (a : Ad) (k : Int) (i : Nat) :
    TrA (w.setCell ⟨A, j * 4 + (bitv a k).toNat, none⟩ (.int .i64 i)) t (.slice (some ⟨A, 0, none⟩) n c) vF { T with ar := T.ar.set j (setKid (T.ar.getD j nd0) (bitv a k) i) } := by
  have e : T.ar.getD j nd0 = T.ar[j] := by simp [hj]
  rw [e]
  rcases bitv_01 a k with hb | hb
  · rw [hb]
    exact h.stored hn j 0 hj (by omega) _ _ (by simp [nd4, setKid])
  · rw [hb]
    exact h.stored hn j 1 hj (by omega) _ _ (by simp [nd4, setKid])
theorem takeI_lt {T : Tr} (h : Wf T) : takeI T < (takeT T).ar.length := by
  unfold takeI takeT
  split
  · simp
  · rename_i hf
    have := h.2.2.2.1 _ (List.getLast_mem hf)
    have e : T.fr.getLastD 0 = T.fr.getLast hf := by
      rw [List.getLastD_eq_getLast?, List.getLast?_eq_some_getLast hf]
      rfl
    rw [e]
    exact this
theorem take_len (T : Tr) : T.ar.length ≤ (takeT T).ar.length ∧ (takeT T).ar.length ≤ T.ar.length + 1 := by
  unfold takeT
  split <;> simp
theorem step_len (T : Tr) (i : Nat) (d : Int) : (stepT T i d).ar.length = (takeT T).ar.length := by simp [stepT]
theorem take_wf {T : Tr} (h : Wf T) (hb : T.ar.length + 1 ≤ 1000000000) : Wf (takeT T) := by
  have hl := take_len T
  obtain ⟨h1, h2, h3, h4, h5⟩ := h
  refine ⟨by omega, by omega, ?_, ?_, ?_⟩
  · intro x hx
    have hx' : x ∈ T.ar ∨ x = nd0 := by
      unfold takeT at hx
      split at hx
      · simpa using hx
      · exact .inl hx
    rcases hx' with hx' | rfl
    · have := h3 x hx'
      omega
    · simp only [nd0]
      omega
  · intro i hi
    have hi' : i ∈ T.fr := by
      unfold takeT at hi
      split at hi
      · exact hi
      · exact List.dropLast_subset _ hi
    have := h4 i hi'
    omega
  · unfold takeT
    split
    · simp
      omega
    · simp
      omega
theorem step_wf {T : Tr} (h : Wf T) (hb : T.ar.length + 1 ≤ 1000000000) (i : Nat) (d : Int) : Wf (stepT T i d) := by
  have hi := takeI_lt h
  obtain ⟨h1, h2, h3, h4, h5⟩ := take_wf h hb
  refine ⟨by rw [step_len]; exact h1, by rw [step_len]; exact h2, ?_, ?_, ?_⟩
  · intro x hx
    rw [step_len]
    by_cases hl : i < (takeT T).ar.length
    · rcases List.mem_or_eq_of_mem_set hx with hx | rfl
      · exact h3 x hx
      · have e : (takeT T).ar.getD i nd0 = (takeT T).ar[i] := by simp [hl]
        have := h3 _ (List.getElem_mem hl)
        rw [e]
        unfold setKid
        split
        · exact ⟨this.1, hi⟩
        · exact ⟨hi, this.2⟩
    · rw [show (stepT T i d).ar = (takeT T).ar from List.set_eq_of_length_le (Nat.le_of_not_lt hl)] at hx
      exact h3 x hx
  · intro j hj
    rw [step_len]
    exact h4 j hj
  · exact h5

/-- What grow's function keeps. -/
def GrowI (w : World) (T : Tr) (p : Pf) (b : Nat) (k : Nat) (S : Nat → Prop) (wr : World) : Prop :=
  (S = fun x => x = b + 1 ∨ x = b + 1 + 1) ∧ Below b w wr ∧ PBox wr b p ∧ wr.heap[b + 1]? = some (.cells #[.int .i64 ((k - 1 : Nat) : Int)] 3 (0, 0)) ∧ wr.heap[b + 1 + 1]? = some (.cells #[.int .i64 ((nodeAt T.ar p.a (k - 1)).getD 0 : Nat)] 3 (0, 0))
set_option maxHeartbeats 400000 in
theorem grow1_any (w0 w : World) (T : Tr) (p : Pf) (b k i : Nat) (S : Nat → Prop) (h : GrowI w0 T p b k S w) (hi : nodeAt T.ar p.a k = some i) :
    Calls Tryz.prog 88 #[.int .i64 k, .int .i64 i, .pointer (some ⟨b + 1, 0, none⟩), .pointer (some ⟨b + 1 + 1, 0, none⟩)] w fun e w' => e = .returned (.tuple #[]) ∧ ∃ S', GrowI w0 T p b (k + 1) S' w' ∧ Frm S w w' ∧ Sub S S' w.heap.size := by
  obtain ⟨rfl, hB, hP, h1, h2⟩ := h
  have f1 := free_of_one h1
  have f2 := free_of_one h2
  have c1 := cell_of_one h1
  have c2 := cell_of_one h2
  have H1 := Lib.hid h1
  have H2 := Lib.hid h2
  have HP := Lib.hid hP
  have HI := Lib.hid hi
  clear h1 h2 hP hi
  go_enter Tryz.func88, Tryz.ntmps88
  go_wp2
  go_end0
  refine ⟨rfl, _, ⟨rfl, (hB.setCell (by simp) _).setCell (by simp; omega) _, ?_, ?_, ?_⟩, ((Frm.refl _ w).setCell (by simp) _).setCell (by simp) _, Sub.refl _ _⟩
  · refine (HP.out.frm (S := fun x => x = b + 1 ∨ x = b + 1 + 1) (((Frm.refl _ w).setCell ?_ _).setCell ?_ _) ?_)
    · simp
    · simp
    · omega
  · rw [Below.heap_setCell _ _ _ _ (by simp), one_setCell H1.out]
    rfl
  · rw [one_setCell (v := .int .i64 ((nodeAt T.ar p.a (k - 1)).getD 0 : Nat)) (by rw [Below.heap_setCell _ _ _ _ (by simp)]; exact H2.out), Nat.add_sub_cancel, HI.out]
    rfl
theorem grow_sees (w : World) (t : Nat) (vA vF : Value) (T : Tr) (h : TrA w t vA vF T) (p : Pf) :
    Sees T t vA vF p 88 #[.pointer (some ⟨w.heap.size + 1, 0, none⟩), .pointer (some ⟨w.heap.size + 1 + 1, 0, none⟩)] (GrowI w T p w.heap.size) where
  see k i S w' hI _ _ hi := grow1_any w w' T p w.heap.size k i S hI hi
  keep k S w1 w2 hI hb := by
    obtain ⟨rfl, hB, hP, h1, h2⟩ := hI
    exact ⟨rfl, hB.trans (hb.mono (Nat.le_of_lt (Nat.lt_of_succ_lt (lt_of_block h1)))), hP.keep hb, (hb.block _ (lt_of_block h1)).trans h1, (hb.block _ (lt_of_block h2)).trans h2⟩
  lt k S w1 hI b hb := by
    obtain ⟨rfl, hB, hP, h1, h2⟩ := hI
    have z1 := lt_of_block h1
    have z2 := lt_of_block h2
    refine ⟨by rcases hb with rfl | rfl <;> assumption, fun hf => ?_⟩
    have := h.lt b hf
    rcases hb with rfl | rfl <;> omega

/-- At the head of a round of grow. -/
def GrowRel (w : World) (t : Nat) (S : Nat → Prop) (p : Pf) (R : Tr × Nat) (n : Value) (wr : World) : Prop :=
  ∃ (k i : Nat) (T : Tr) (S' : Nat → Prop), n = .int .i64 k ∧ (k : Int) ≤ p.n ∧ growF p.a (p.n.toNat - k) T i k = R ∧ Wf T ∧ T.ar.length + (p.n.toNat - k) ≤ 1000000000 ∧ i < T.ar.length ∧ TrS wr t S' T ∧ PBox wr w.heap.size p ∧
    wr.heap[w.heap.size + 1 + 1]? = some (.cells #[.int .i64 (i : Int)] 3 (0, 0)) ∧ Frm S w wr ∧ Sub S S' w.heap.size ∧ ¬ S' w.heap.size ∧ ¬ S' (w.heap.size + 1 + 1)
def GrowPost (w : World) (t : Nat) (S : Nat → Prop) (T : Tr) (p : Pf) (e : Ending) (w' : World) : Prop :=
  ∃ (m i : Nat), nodeAt T.ar p.a m = some i ∧ (m : Int) ≤ p.n ∧ ((m : Int) = p.n ∨ nodeAt T.ar p.a (m + 1) = none) ∧ TPost t S w (growF p.a (p.n.toNat - m) T i m).1 (.int .i64 ((growF p.a (p.n.toNat - m) T i m).2 : Nat)) e w'

set_option maxHeartbeats 2000000 in
theorem grow_any (w : World) (t : Nat) (S : Nat → Prop) (T : Tr) (h : TrS w t S T) (hW : Wf T) (hb : T.ar.length + 128 ≤ 1000000000) (p : Pf) (hp : psane p = true) :
    Calls Tryz.prog 66 #[.pointer (some ⟨t, 0, none⟩), .agg #[.int .u64 (u p.a.hi), .int .u64 (u p.a.lo), .bool p.a.v6, .int .i64 p.n]] w (GrowPost w t S T p) := by
  obtain ⟨vA, vF, rfl, h⟩ := h
  have HT := Lib.hid h
  have HW := Lib.hid hW
  have HP := Lib.hid hp
  obtain ⟨n0, n1⟩ := psane_bd hp
  have n2 := (wid_bd p.a.v6).2
  clear h hW hp
  go_enter Tryz.func66, Tryz.ntmps66
  go_wp2_with fail
  refine (root_any p.a.v6 _).mono ?_
  rintro e w1 ⟨rfl, rfl⟩
  go_wp2_with fail
  refine (along_any _ t vA vF T (HT.out.keep (by go_grown)) HW.out p HP.out _ (enters_of Tryz.func88 (by kernel_rfl) rfl) _ _ (grow_sees w t vA vF T HT.out p) _ ⟨rfl, by go_grown, ?_, ?_, ?_⟩).mono ?_
  · exact ⟨by go_simp <;> rfl, by go_simp <;> rfl, by go_simp <;> rfl, by go_simp <;> rfl, by go_simp <;> rfl, by go_simp <;> rfl, by go_simp <;> rfl, by go_simp <;> rfl, by go_size⟩
  · repeat (first | (refine hp_new ?_; (simp; done)) | (refine hp_old ?_ ?_; · (first | (simp; done) | (simp; omega))))
  · repeat (first | (refine hp_new ?_; (simp; done)) | (refine hp_old ?_ ?_; · (first | (simp; done) | (simp; omega))))
  rintro e w1 ⟨rfl, S1, m, ⟨-, hb1, hP1, h1, h2⟩, -, -, hm, ⟨i, hi⟩, hm2⟩
  rw [Nat.add_sub_cancel] at h1 h2
  rw [hi] at h2
  have c1 := cell_of_one h1
  have H2 := Lib.hid h2
  have HI := Lib.hid hi
  have HM := Lib.hid hm2
  have hi' := nodeAt_lt HW.out p.a m i hi
  have z1 := hb1.size
  have hTz := HT.out.lt
  have hn1 : ¬ foot t vA vF w.heap.size := fun e => by have := hTz _ e; omega
  have hn2 : ¬ foot t vA vF (w.heap.size + 1 + 1) := fun e => by have := hTz _ e; omega
  clear hi h1 h2 hm2 hTz
  go_wp2_with fail
  obtain ⟨R, hR⟩ : ∃ R, growF p.a (p.n.toNat - m) T i m = R := ⟨_, rfl⟩
  have HR := Lib.hid hR
  clear hR
  go_loopw [7] (fun n wr => GrowRel w t (foot t vA vF) p R n wr) (fun n _ => (p.n - intOf n).toNat)
  case atStart => exact ⟨m, i, T, _, rfl, hm, HR.out, HW.out, by omega, hi', ⟨_, _, rfl, HT.out.keep hb1⟩, hP1, H2.out, frm_of_below hb1, Sub.refl _ _, hn1, hn2⟩
  case round =>
    obtain ⟨k, j, T', S', rfl, hk, hR', hW', hlen, hj, hT', hP', hb', hF', hS', hs1, hs2⟩ := hrel
    have HR' := Lib.hid hR'
    have HW' := Lib.hid hW'
    have HT' := Lib.hid hT'
    have HB := Lib.hid hb'
    have HP' := Lib.hid hP'
    have cb := cell_of_one hb'
    have fb := free_of_one hb'
    have zb := lt_of_block hb'
    obtain ⟨pa, pb, pc, pd, -, -, -, -, pz⟩ := id hP'
    clear hR' hW' hT' hb' hP' c1 hP1 H2
    by_cases hlt : (k : Int) < p.n
    · have t1 : decide ((k : Int) < p.n) = true := by simp; omega
      go_wp2_with fail
      refine (take_any _ t S' T' HT'.out HW'.out).mono ?_
      rintro e w4 ⟨rfl, S4, hT4, hf4, hs4⟩
      have hP4 := HP'.out.frm hf4 hs1
      have hb4 : w4.heap[w.heap.size + 1 + 1]? = some (.cells #[.int .i64 (j : Int)] 3 (0, 0)) := (hf4.block _ zb hs2).trans HB.out
      have hs41 : ¬ S4 w.heap.size := fun e => by
        rcases hs4 _ e with q | q
        · exact hs1 q
        · omega
      have hs42 : ¬ S4 (w.heap.size + 1 + 1) := fun e => by
        rcases hs4 _ e with q | q
        · exact hs2 q
        · omega
      have hF4 := hF'.trans hf4 hS'
      have z5 := hF'.size
      have hS4 : Sub (foot t vA vF) S4 w.heap.size := hS'.trans hs4 z5
      have hl4 := take_len T'
      have hI4 := takeI_lt HW'.out
      have HW5 := Lib.hid (step_wf HW'.out (by omega) j (bitv p.a k))
      have HR5 : Hid (growF p.a (p.n.toNat - (k + 1)) (stepT T' j (bitv p.a k)) (takeI T') (k + 1) = R) := by
        have e1 : p.n.toNat - k = (p.n.toNat - (k + 1)) + 1 := by omega
        have := HR'.out
        rw [e1] at this
        exact this
      obtain ⟨vA4, vF4, rfl, hT4⟩ := hT4
      have HT4 := Lib.hid hT4
      obtain ⟨c0, -, -, -, -, -, ct⟩ := hT4.head
      obtain ⟨A, c, hvA, hlc, hcm, hAz, hAt, hcell, hfz⟩ := hT4.arena (by omega)
      have hkc := kid_cell A hcell p.a k j (by omega)
      have hfk := hfz (j * 4 + (bitv p.a k).toNat)
      have cb4 := cell_of_one hb4
      have fb4 := free_of_one hb4
      have zb4 := lt_of_block hb4
      have hb1' := bitv_01 p.a (k : Int)
      have hb2' : 0 ≤ bitv p.a (k : Int) ∧ bitv p.a (k : Int) < 2 := by omega
      have hlen4 : j < (takeT T').ar.length := by omega
      subst hvA
      clear pa pb pc pd cb fb hcell hfz hT4 hf4 hs4 hb1' HR' HB HP' HT'
      obtain ⟨pa, pb, pc, pd, -, -, -, -, pz4⟩ := id hP4
      go_wp2_with fail
      obtain ⟨W, rfl⟩ : ∃ W, W = w4 := ⟨_, rfl⟩
      have L0 := fun x : Later W.heap.size W => (x.cell ct).trans c0
      have L1 := fun x : Later W.heap.size W => (x.cell hAz).trans hkc
      have L2 := fun x : Later W.heap.size W => (x.cell zb4).trans cb4
      have La := fun x : Later W.heap.size W => (x.cell pz4).trans pa
      have Lb := fun x : Later W.heap.size W => (x.cell pz4).trans pb
      have Lc := fun x : Later W.heap.size W => (x.cell pz4).trans pc
      refine region_tail 13 W.heap.size (by kernel_rfl) (by kernel_rfl) ?_
      simp only [List.take_succ_cons, List.take_zero, List.drop_succ_cons, List.drop_zero]
      repeat (go_big_quiet_step ((go_at_call 90; exact later_of (Nat.le_refl _) (bit_any _ _ _))))
      refine wpQuiet_nil ?_
      intro x
      have hx := x.below
      have qk : x.at.cell? ⟨A, j * 4 + (bitv p.a k).toNat, none⟩ = some (.int .i64 (kid ((takeT T').ar.getD j nd0) (bitv p.a k))) := L1 x
      have qf : x.at.frozen? ⟨A, j * 4 + (bitv p.a k).toNat, none⟩ = false := (hx.frozen hAz).trans hfk
      have qb : x.at.cell? ⟨w.heap.size + 1 + 1, 0, none⟩ = some (.int .i64 (j : Int)) := L2 x
      have qbf : x.at.frozen? ⟨w.heap.size + 1 + 1, 0, none⟩ = false := (hx.frozen zb4).trans fb4
      have hAb : ¬ A = w.heap.size + 1 + 1 := fun e => hs42 (by rw [← e]; exact .inr (.inl rfl))
      generalize x.at = w5 at hx qk qf qb qbf ⊢
      clear x L0 L1 L2 La Lb Lc hkc c0 pa pb pc pd
      go_wp2
      have hT6 := (HT4.out.keep hx).kidset rfl j hlen4 p.a k (takeI T')
      refine ⟨⟨k + 1, takeI T', stepT T' j (bitv p.a k), _, by go_num, by omega, HR5.out, HW5.out, by rw [step_len]; omega, by rw [step_len]; exact hI4, ⟨_, _, rfl, ?_⟩, ?_, ?_, ?_, hS4, hs41, hs42⟩, by simp [intOf]; omega⟩
      · exact hT6.frm (S := fun b => b = w.heap.size + 1 + 1) ((Frm.refl (fun b => b = w.heap.size + 1 + 1) _).setCell (.inl rfl) _) (fun b hb e => hs42 (e ▸ hb))
      · exact (hP4.keep hx).frm (S := fun b => b = A ∨ b = w.heap.size + 1 + 1) (((Frm.refl (fun b => b = A ∨ b = w.heap.size + 1 + 1) _).setCell (.inl (.inl rfl)) _).setCell (.inl (.inr rfl)) _) (fun e => by rcases e with e | e; exact hs41 (by rw [e]; exact .inr (.inl rfl)); omega)
      · exact one_setCell (v := .int .i64 (j : Int)) (by rw [Below.heap_setCell _ _ _ _ (fun e => hAb e.symm)]; exact (hx.block _ zb4).trans hb4)
      · exact ((hF4.then hx).setCell (hS4 A (.inr (.inl rfl))) _).setCell (.inr (by simp; omega)) _
    · have hkn : p.n.toNat - k = 0 := by omega
      have t1 : decide ((k : Int) < p.n) = false := by simp; omega
      have HK := Lib.hid hkn
      clear hkn
      go_wp2
      go_ret
      have e1 := HR'.out
      rw [HK.out] at e1
      refine ⟨m, i, HI.out, hm, HM.out, ?_, S', ?_, hF', hS'⟩
      · rw [HR.out, ← e1]
        rfl
      · rw [HR.out, ← e1]
        exact HT'.out

def setV (x : Nd) (th : Bool) (v : Int) : Nd := { x with th := th, v := v }
theorem TrA.valset {w : World} {t A n c : Nat} {vF : Value} {T : Tr} (h : TrA w t (.slice (some ⟨A, 0, none⟩) n c) vF T) (hn : n = T.ar.length) (j : Nat) (hj : j < T.ar.length) (th : Bool) (v : Int) :
    TrA ((w.setCell ⟨A, j * 4 + 2, none⟩ (.bool th)).setCell ⟨A, j * 4 + 3, none⟩ (.int .i64 v)) t (.slice (some ⟨A, 0, none⟩) n c) vF { T with ar := T.ar.set j (setV (T.ar.getD j nd0) th v) } := by
  have e : T.ar.getD j nd0 = T.ar[j] := by simp [hj]
  rw [e]
  have h1 := h.stored hn j 2 hj (by omega) { T.ar[j] with th := th } (.bool th) (by simp [nd4])
  have h2 := h1.stored (by simp [hn]) j 3 (by simpa using hj) (by omega) (setV T.ar[j] th v) (.int .i64 v) (by simp [nd4, setV])
  simpa using h2
theorem TrA.count {w : World} {t : Nat} {vA vF : Value} {T : Tr} (h : TrA w t vA vF T) (m : Int) : TrA (w.setCell ⟨t, 2, none⟩ (.int .i64 m)) t vA vF { T with n := m } := by
  obtain ⟨a1, a2, a3⟩ := h.apart
  exact ⟨(row3 h.1).2.2, ownsRow_setCell_other h.2.1 a1 _, ownsRow_setCell_other h.2.2 a2 _⟩
/-- A number is put at a node. -/
def putN (T : Tr) (i : Nat) (v : Int) : Tr := { T with ar := T.ar.set i (setV (T.ar.getD i nd0) true v), n := if (T.ar.getD i nd0).th = true then T.n else T.n + 1 }
def PutPost (w : World) (t : Nat) (S : Nat → Prop) (T : Tr) (p : Pf) (v : Int) (e : Ending) (w' : World) : Prop :=
  ∃ (m i : Nat), nodeAt T.ar p.a m = some i ∧ (m : Int) ≤ p.n ∧ ((m : Int) = p.n ∨ nodeAt T.ar p.a (m + 1) = none) ∧ TPost t S w (putN (growF p.a (p.n.toNat - m) T i m).1 (growF p.a (p.n.toNat - m) T i m).2 v) (.int .i64 0) e w'
theorem grow_wf (a : Ad) : ∀ (f : Nat) (T : Tr) (i k : Nat), Wf T → i < T.ar.length → T.ar.length + f ≤ 1000000000 → Wf (growF a f T i k).1 ∧ (growF a f T i k).2 < (growF a f T i k).1.ar.length ∧ (growF a f T i k).1.ar.length ≤ T.ar.length + f ∧ (growF a f T i k).1.n = T.n := by
  intro f
  induction f with
  | zero => intro T i k hW hi hb; exact ⟨hW, hi, Nat.le_refl _, rfl⟩
  | succ f ih =>
    intro T i k hW hi hb
    have hl := take_len T
    have := ih (stepT T i (bitv a k)) (takeI T) (k + 1) (step_wf hW (by omega) _ _) (by rw [step_len]; exact takeI_lt hW) (by rw [step_len]; omega)
    rw [step_len] at this
    refine ⟨this.1, this.2.1, Nat.le_trans this.2.2.1 (by omega), this.2.2.2.trans ?_⟩
    simp only [stepT, takeT]
    split <;> rfl

set_option maxHeartbeats 2000000 in
theorem put_no (w : World) (t : Nat) (S : Nat → Prop) (T : Tr) (h : TrS w t S T) (hW : Wf T) (p : Pf) (v : Int) (hp : psane p = false) :
    Calls Tryz.prog 38 #[.pointer (some ⟨t, 0, none⟩), .agg #[.int .u64 (u p.a.hi), .int .u64 (u p.a.lo), .bool p.a.v6, .int .i64 p.n], .int .i64 v] w fun e w' => e = .returned (.int .i64 1) ∧ Below w.heap.size w w' := by
  obtain ⟨vA, vF, rfl, h⟩ := h
  have HT := Lib.hid h
  have HW := Lib.hid hW
  have hs' : (!psane p) = true := by simp [hp]
  clear h hW hp
  go_enter Tryz.func38, Tryz.ntmps38
  go_wp2_with fail
  refine (made_yes _ t vA vF T (HT.out.keep (by go_grown)) HW.out.1).mono ?_
  rintro e w1 ⟨rfl, rfl⟩
  go_wp2_with fail
  refine (psane_any p _).mono ?_
  rintro e w2 ⟨rfl, hw2⟩
  have zw2 := hw2.size
  have bw2 := below_of (w := w) (by go_grown) hw2
  try simp at zw2
  obtain ⟨p1a, p1b, p1c, p1g, p1d, p1e, p1f, p1h, p1z⟩ := cells4 (b := w.heap.size) hw2 (by go_size) (by go_simp <;> rfl) (by go_simp <;> rfl) (by go_simp <;> rfl) (by go_simp <;> rfl) (by go_simp <;> rfl) (by go_simp <;> rfl) (by go_simp <;> rfl) (by go_simp <;> rfl)
  clear hw2
  go_wp2
  go_ret
  exact ⟨rfl, bw2⟩
set_option maxHeartbeats 2000000 in
theorem put_any (w : World) (t : Nat) (S : Nat → Prop) (T : Tr) (h : TrS w t S T) (hW : Wf T) (hb : T.ar.length + 128 ≤ 1000000000) (hn0 : 0 ≤ T.n) (hn1 : T.n ≤ 1000000000) (p : Pf) (v : Int) (hp : psane p = true) :
    Calls Tryz.prog 38 #[.pointer (some ⟨t, 0, none⟩), .agg #[.int .u64 (u p.a.hi), .int .u64 (u p.a.lo), .bool p.a.v6, .int .i64 p.n], .int .i64 v] w (PutPost w t S T p v) := by
  obtain ⟨vA, vF, rfl, h⟩ := h
  have HT := Lib.hid h
  have HW := Lib.hid hW
  have HP := Lib.hid hp
  have hs' : (!psane p) = false := by simp [hp]
  obtain ⟨n0, n1⟩ := psane_bd hp
  have n2 := (wid_bd p.a.v6).2
  clear h hW hp
  go_enter Tryz.func38, Tryz.ntmps38
  go_wp2_with fail
  refine (made_yes _ t vA vF T (HT.out.keep (by go_grown)) HW.out.1).mono ?_
  rintro e w1 ⟨rfl, rfl⟩
  go_wp2_with fail
  refine (psane_any p _).mono ?_
  rintro e w2 ⟨rfl, hw2⟩
  have zw2 := hw2.size
  have bw2 := below_of (w := w) (by go_grown) hw2
  try simp at zw2
  obtain ⟨p2a, p2b, p2c, p2g, p2d, p2e, p2f, p2h, p2z⟩ := cells4 (b := w.heap.size) hw2 (by go_size) (by go_simp <;> rfl) (by go_simp <;> rfl) (by go_simp <;> rfl) (by go_simp <;> rfl) (by go_simp <;> rfl) (by go_simp <;> rfl) (by go_simp <;> rfl) (by go_simp <;> rfl)
  clear hw2
  go_wp2_with fail
  refine (grow_any _ t _ T ⟨_, _, rfl, HT.out.keep bw2⟩ HW.out hb p HP.out).mono ?_
  rintro e w3 ⟨m, i, hi, hm, hm2, rfl, S3, ⟨vA3, vF3, rfl, hT3⟩, hf3, hs3⟩
  have hi' := nodeAt_lt HW.out p.a m i hi
  obtain ⟨g1, g2, g3, g4⟩ := grow_wf p.a (p.n.toNat - m) T i m HW.out hi' (by omega)
  have HI := Lib.hid hi
  have HM := Lib.hid hm2
  have hF3 := (frm_of_below (S := foot t vA vF) bw2).trans hf3 (Sub.refl _ _)
  have hS3 : Sub (foot t vA vF) (foot t vA3 vF3) w.heap.size := fun b hb => (hs3 b hb).imp id (fun h => by have := bw2.size; omega)
  obtain ⟨R, hR⟩ : ∃ R, growF p.a (p.n.toNat - m) T i m = R := ⟨_, rfl⟩
  have HR := Lib.hid hR
  rw [hR] at hT3 g1 g2 g3 g4 ⊢
  obtain ⟨T3, j⟩ := R
  simp only at hT3 g1 g2 g3 g4 ⊢
  rw [← g4] at hn0 hn1
  obtain ⟨c0, -, c2, -, -, f2, ct⟩ := hT3.head
  obtain ⟨A, c, hvA, hlc, hcm, hAz, hAt, hcell, hfz⟩ := hT3.arena (by omega)
  obtain ⟨-, -, q2, q3⟩ := hcell j g2
  have k2 := hfz (j * 4 + 2)
  have k3 := hfz (j * 4 + 3)
  have HT3 := Lib.hid hT3
  have hd1 : ¬ t = A := fun e => hAt e.symm
  subst hvA
  have HX : Hid (T3.ar.getD j nd0 = T3.ar[j]) := by exact Lib.hid (by simp [g2])
  generalize T3.ar[j] = x at q2 q3 HX
  clear hi hm2 hR hf3 hs3 hcell hfz hT3 g4
  clear p2a p2b p2c p2g p2d p2e p2f p2h p2z
  cases hx : x.th
  · rw [hx] at q2
    have HX' := Lib.hid hx
    clear hx
    go_wp2_with fail
    have HTc := Lib.hid (HT3.out.count (T3.n + 1))
    have hFc := hF3.setCell (p := ⟨t, 2, none⟩) (.inl (.inl rfl)) (.int .i64 (T3.n + 1))
    generalize hW : World.setCell _ _ _ = W at HTc hFc ⊢
    obtain ⟨d0, -, -, -, -, -, dt⟩ := HTc.out.head
    obtain ⟨-, -, r2, r3, rf, -, -⟩ := HTc.out.nodeAt j g2
    have j2 := rf (j * 4 + 2)
    have j3 := rf (j * 4 + 3)
    clear hW c0 q2 q3 k2 k3 c2 f2 rf
    go_region
    all_goals go_wp2
    all_goals go_ret
    refine ⟨m, i, HI.out, hm, HM.out, rfl, _, ⟨_, _, rfl, ?_⟩, ((hFc.setCell (hS3 A (.inr (.inl rfl))) _).setCell (hS3 A (.inr (.inl rfl))) _).drew, hS3⟩
    have e := HTc.out.valset rfl j g2 true v
    rw [HR.out]
    simp only [putN, HX.out, HX'.out]
    simp only [HX.out] at e
    exact e
  · rw [hx] at q2
    have HX' := Lib.hid hx
    clear hx
    go_wp2_with fail
    have HTc := HT3
    have hFc := hF3
    generalize hW : w3 = W at HTc hFc ⊢
    obtain ⟨d0, -, -, -, -, -, dt⟩ := HTc.out.head
    obtain ⟨-, -, r2, r3, rf, -, -⟩ := HTc.out.nodeAt j g2
    have j2 := rf (j * 4 + 2)
    have j3 := rf (j * 4 + 3)
    clear hW c0 q2 q3 k2 k3 c2 f2 rf
    go_region
    all_goals go_wp2
    all_goals go_ret
    refine ⟨m, i, HI.out, hm, HM.out, rfl, _, ⟨_, _, rfl, ?_⟩, ((hFc.setCell (hS3 A (.inr (.inl rfl))) _).setCell (hS3 A (.inr (.inl rfl))) _).drew, hS3⟩
    have e := HTc.out.valset rfl j g2 true v
    rw [HR.out]
    simp only [putN, HX.out, HX'.out]
    simp only [HX.out] at e
    exact e

end Go.Proofs.YtcbfppangiopeaaGreat
