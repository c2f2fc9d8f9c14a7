/-
  What at, Get and Inside of package trie return. Condition: the tree lies at the pointer's block.
-/
import Derived.Test.YtcbfppangiopeaaGreatZb
namespace Go.Proofs.YtcbfppangiopeaaGreat
open Go.RowKit
set_option maxRecDepth 100000

theorem nodeAt_none {ar : List Nd} {a : Ad} {m : Nat} (h : nodeAt ar a m = none) : ∀ d, nodeAt ar a (m + d) = none := by
  intro d
  induction d with
  | zero => exact h
  | succ d ih =>
    show (nodeAt ar a (m + d)).bind _ = none
    rw [ih, Option.bind_none]
/-- The node of a prefix. -/
def atT (T : Tr) (p : Pf) : Option Nat := if psane p = true then nodeAt T.ar p.a p.n.toNat else none
theorem atT_lt {T : Tr} (h : Wf T) {p : Pf} {i : Nat} (hi : atT T p = some i) : i < T.ar.length := by
  unfold atT at hi
  split at hi
  · exact nodeAt_lt h _ _ _ hi
  · cases hi

set_option maxHeartbeats 400000 in
theorem along_no (w : World) (t : Nat) (vA vF : Value) (T : Tr) (h : TrA w t vA vF T) (h2 : 2 ≤ T.ar.length) (p : Pf) (hp : psane p = false) (f : Value) :
    Calls Tryz.prog 69 #[.pointer (some ⟨t, 0, none⟩), .agg #[.int .u64 (u p.a.hi), .int .u64 (u p.a.lo), .bool p.a.v6, .int .i64 p.n], f] w fun e w' => e = .returned (.tuple #[]) ∧ Below w.heap.size w w' := by
  have HT := Lib.hid h
  have hs' : (!psane p) = true := by simp [hp]
  clear h hp
  go_enter Tryz.func69, Tryz.ntmps69
  go_wp2_with fail
  refine (made_yes _ t vA vF T (HT.out.keep (by go_grown)) h2).mono ?_
  rintro e w1 ⟨rfl, rfl⟩
  go_wp2_with fail
  refine (psane_any p _).mono ?_
  rintro e w2 ⟨rfl, hw2⟩
  have zw2 := hw2.size
  have bw2 := below_of (w := w) (by go_grown) hw2
  try simp at zw2
  obtain ⟨p1a, p1b, p1c, p1g, p1d, p1e, p1f, p1h, p1z⟩ := cells4 (b := w.heap.size) hw2 (by go_size) (by go_simp <;> rfl) (by go_simp <;> rfl) (by go_simp <;> rfl) (by go_simp <;> rfl) (by go_simp <;> rfl) (by go_simp <;> rfl) (by go_simp <;> rfl) (by go_simp <;> rfl)
  clear hw2
  go_wp2
  exact bodyPost_ret (v := .tuple #[]) (by simp [*, results, Tryz.results69, go_sem] <;> rfl) rfl ⟨rfl, bw2⟩

def atK (o : Option Nat) (n : Int) (k : Nat) : Nat := if n < (k : Int) then o.getD 0 else 0
/-- What at's function keeps. -/
def AtI (w : World) (T : Tr) (p : Pf) (b : Nat) (k : Nat) (S : Nat → Prop) (wr : World) : Prop :=
  (S = fun x => x = b + 1 ∨ x = b + 1 + 1) ∧ Below b w wr ∧ PBox wr b p ∧ wr.heap[b + 1]? = some (.cells #[.int .i64 (atK (nodeAt T.ar p.a p.n.toNat) p.n k)] 3 (0, 0)) ∧ wr.heap[b + 1 + 1]? = some (.cells #[.bool (decide (p.n < (k : Int)))] 4 (0, 0))

set_option maxHeartbeats 400000 in
theorem at1_any (w0 w : World) (T : Tr) (p : Pf) (hn : 0 ≤ p.n) (b k i : Nat) (S : Nat → Prop) (h : AtI w0 T p b k S w) (hk : (k : Int) ≤ p.n) (hi : nodeAt T.ar p.a k = some i) :
    Calls Tryz.prog 86 #[.int .i64 k, .int .i64 i, .pointer (some ⟨b, 0, none⟩), .pointer (some ⟨b + 1, 0, none⟩), .pointer (some ⟨b + 1 + 1, 0, none⟩)] w fun e w' => e = .returned (.tuple #[]) ∧ ∃ S', AtI w0 T p b (k + 1) S' w' ∧ Frm S w w' ∧ Sub S S' w.heap.size := by
  obtain ⟨rfl, hB, hP, h1, h2⟩ := h
  obtain ⟨-, -, -, pd, -⟩ := id hP
  have H1 := Lib.hid h1
  have H2 := Lib.hid h2
  have HP := Lib.hid hP
  have HI := Lib.hid hi
  clear h1 h2 hP hi
  by_cases he : (k : Int) = p.n
  · have f1 := free_of_one H1.out
    have f2 := free_of_one H2.out
    have c1 := cell_of_one H1.out
    have c2 := cell_of_one H2.out
    have t0 : ((k : Int) == p.n) = true := by simp [he]
    have HE := Lib.hid he
    clear he
    go_enter Tryz.func86, Tryz.ntmps86
    go_wp2
    go_end0
    have e1 : p.n.toNat = k := by have := HE.out; omega
    refine ⟨rfl, _, ⟨rfl, (hB.setCell (by simp) _).setCell (by simp; omega) _, ?_, ?_, ?_⟩, ((Frm.refl _ w).setCell (by simp) _).setCell (by simp) _, Sub.refl _ _⟩
    · refine (HP.out.frm (S := fun x => x = b + 1 ∨ x = b + 1 + 1) (((Frm.refl _ w).setCell ?_ _).setCell ?_ _) ?_)
      · simp
      · simp
      · omega
    · rw [Below.heap_setCell _ _ _ _ (by simp), one_setCell H1.out, atK, if_pos (by omega), e1, HI.out]
      rfl
    · rw [one_setCell (v := .bool (decide (p.n < (k : Int)))) (by rw [Below.heap_setCell _ _ _ _ (by simp)]; exact H2.out)]
      rw [show decide (p.n < ((k + 1 : Nat) : Int)) = true from by simp; omega]
  · have t0 : ((k : Int) == p.n) = false := by simp [he]
    have HE := Lib.hid he
    clear he
    go_enter Tryz.func86, Tryz.ntmps86
    go_wp2
    go_end0
    have := HE.out
    refine ⟨rfl, _, ⟨rfl, hB, HP.out, ?_, ?_⟩, Frm.refl _ w, Sub.refl _ _⟩
    · rw [H1.out, atK, atK, if_neg (by omega), if_neg (by omega)]
    · rw [H2.out, show decide (p.n < ((k + 1 : Nat) : Int)) = decide (p.n < (k : Int)) from by simp; omega]
theorem at_sees (w : World) (t : Nat) (vA vF : Value) (T : Tr) (h : TrA w t vA vF T) (p : Pf) (hn : 0 ≤ p.n) :
    Sees T t vA vF p 86 #[.pointer (some ⟨w.heap.size, 0, none⟩), .pointer (some ⟨w.heap.size + 1, 0, none⟩), .pointer (some ⟨w.heap.size + 1 + 1, 0, none⟩)] (AtI w T p w.heap.size) where
  see k i S w' hI _ hk hi := at1_any w w' T p hn w.heap.size k i S hI hk hi
  keep k S w1 w2 hI hb := by
    obtain ⟨rfl, hB, hP, h1, h2⟩ := hI
    exact ⟨rfl, hB.trans (hb.mono (Nat.le_of_lt (Nat.lt_of_succ_lt (lt_of_block h1)))), hP.keep hb, (hb.block _ (lt_of_block h1)).trans h1, (hb.block _ (lt_of_block h2)).trans h2⟩
  lt k S w1 hI b hb := by
    obtain ⟨rfl, hB, hP, h1, h2⟩ := hI
    have z1 := lt_of_block h1
    have z2 := lt_of_block h2
    refine ⟨by rcases hb with rfl | rfl <;> assumption, fun hf => ?_⟩
    have := h.lt b hf
    rcases hb with rfl | rfl <;> omega

set_option maxHeartbeats 1000000 in
theorem at_any (w : World) (t : Nat) (vA vF : Value) (T : Tr) (h : TrA w t vA vF T) (hW : Wf T) (p : Pf) :
    Calls Tryz.prog 64 #[.pointer (some ⟨t, 0, none⟩), .agg #[.int .u64 (u p.a.hi), .int .u64 (u p.a.lo), .bool p.a.v6, .int .i64 p.n]] w fun e w' => e = .returned (.tuple #[.int .i64 ((atT T p).getD 0 : Nat), .bool (atT T p).isSome]) ∧ Below w.heap.size w w' := by
  have HT := Lib.hid h
  have HW := Lib.hid hW
  clear h hW
  cases hp : psane p
  · have HA : Hid (atT T p = none) := by unfold atT; rw [hp]; rfl
    have HP := Lib.hid hp
    clear hp
    go_enter Tryz.func64, Tryz.ntmps64
    go_wp2_with fail
    refine (along_no _ t vA vF T (HT.out.keep (by go_grown)) HW.out.1 p HP.out _).mono ?_
    rintro e w1 ⟨rfl, hw1⟩
    have b1 : Below w.heap.size w w1 := below_of (by go_grown) hw1
    have c1 : w1.cell? ⟨w.heap.size + 1, 0, none⟩ = some (.int .i64 0) := (hw1.cell (by go_size)).trans (by go_simp <;> rfl)
    have c2 : w1.cell? ⟨w.heap.size + 1 + 1, 0, none⟩ = some (.bool false) := (hw1.cell (by go_size)).trans (by go_simp <;> rfl)
    clear hw1
    go_wp2_with fail
    go_quiet (fail)
    go_wp2
    go_ret2
    rw [HA.out]
    exact ⟨rfl, below_drewN b1 _⟩
  · have HA : Hid (atT T p = nodeAt T.ar p.a p.n.toNat) := by unfold atT; rw [if_pos hp]; exact rfl
    have HP := Lib.hid hp
    obtain ⟨n0, n1⟩ := psane_bd hp
    clear hp
    go_enter Tryz.func64, Tryz.ntmps64
    go_wp2_with fail
    refine (along_any _ t vA vF T (HT.out.keep (by go_grown)) HW.out p HP.out _ (enters_of Tryz.func86 (by kernel_rfl) rfl) _ _ (at_sees w t vA vF T HT.out p n0) _ ⟨rfl, by go_grown, ?_, ?_, ?_⟩).mono ?_
    · exact ⟨by go_simp <;> rfl, by go_simp <;> rfl, by go_simp <;> rfl, by go_simp <;> rfl, by go_simp <;> rfl, by go_simp <;> rfl, by go_simp <;> rfl, by go_simp <;> rfl, by go_size⟩
    · rw [atK, if_neg (by omega)]
      repeat (first | (refine hp_new ?_; (simp; done)) | (refine hp_old ?_ ?_; · (first | (simp; done) | (simp; omega))))
    · rw [show decide (p.n < ((0 : Nat) : Int)) = false from by simp; omega]
      repeat (first | (refine hp_new ?_; (simp; done)) | (refine hp_old ?_ ?_; · (first | (simp; done) | (simp; omega))))
    rintro e w1 ⟨rfl, S1, m, ⟨-, hb1, -, h1, h2⟩, -, -, hm, hm1, hm2⟩
    have c1 := cell_of_one h1
    have c2 := cell_of_one h2
    have e1 : atK (nodeAt T.ar p.a p.n.toNat) p.n (m + 1) = (nodeAt T.ar p.a p.n.toNat).getD 0 ∧ decide (p.n < ((m + 1 : Nat) : Int)) = (nodeAt T.ar p.a p.n.toNat).isSome := by
      unfold atK
      rcases hm2 with e | e
      · have : p.n.toNat = m := by omega
        obtain ⟨i, hi⟩ := hm1
        rw [if_pos (by omega), this, hi]
        simp
        omega
      · have e2 := nodeAt_none e (p.n.toNat - (m + 1))
        by_cases h3 : (m : Int) = p.n
        · have : p.n.toNat = m := by omega
          obtain ⟨i, hi⟩ := hm1
          rw [if_pos (by omega), this, hi]
          simp
          omega
        · rw [show m + 1 + (p.n.toNat - (m + 1)) = p.n.toNat from by omega] at e2
          rw [if_neg (by omega), e2]
          simp
          omega
    rw [e1.1] at c1
    rw [e1.2] at c2
    generalize nodeAt T.ar p.a p.n.toNat = o at c1 c2 HA
    clear h1 h2 e1 hm1 hm2 HW
    go_wp2_with fail
    go_quiet (fail)
    go_wp2
    go_ret2
    rw [HA.out]
    exact ⟨rfl, below_drewN hb1 _⟩

/-- A node's number. -/
def getT (T : Tr) (p : Pf) : Option Int := (atT T p).bind fun i => if (T.ar.getD i nd0).th = true then some (T.ar.getD i nd0).v else none
set_option maxHeartbeats 1000000 in
theorem get_any (w : World) (t : Nat) (vA vF : Value) (T : Tr) (h : TrA w t vA vF T) (hW : Wf T) (p : Pf) :
    Calls Tryz.prog 36 #[.pointer (some ⟨t, 0, none⟩), .agg #[.int .u64 (u p.a.hi), .int .u64 (u p.a.lo), .bool p.a.v6, .int .i64 p.n]] w fun e w' => e = .returned (.tuple #[.int .i64 ((getT T p).getD 0), .bool (getT T p).isSome]) ∧ Below w.heap.size w w' := by
  have HT := Lib.hid h
  have HW := Lib.hid hW
  clear h hW
  cases ha : atT T p with
  | none =>
    have HG : Hid (getT T p = none) := by unfold getT; rw [ha]; exact rfl
    have HA := Lib.hid ha
    clear ha
    go_enter Tryz.func36, Tryz.ntmps36
    go_wp2_with fail
    refine (at_any _ t vA vF T (HT.out.keep (by go_grown)) HW.out p).mono ?_
    rw [HA.out]
    rintro e w1 ⟨rfl, hw1⟩
    have b1 : Below w.heap.size w w1 := below_of (by go_grown) hw1
    go_wp2
    go_ret2
    rw [HG.out]
    exact ⟨rfl, b1⟩
  | some i =>
    have hi := atT_lt HW.out ha
    have HG : Hid (getT T p = if (T.ar.getD i nd0).th = true then some (T.ar.getD i nd0).v else none) := by unfold getT; rw [ha]; exact rfl
    have HA := Lib.hid ha
    have e0 : T.ar.getD i nd0 = T.ar[i] := by simp [hi]
    rw [e0] at HG
    clear ha e0
    go_enter Tryz.func36, Tryz.ntmps36
    go_wp2_with fail
    refine (at_any _ t vA vF T (HT.out.keep (by go_grown)) HW.out p).mono ?_
    rw [HA.out]
    rintro e w1 ⟨rfl, hw1⟩
    have b1 : Below w.heap.size w w1 := below_of (by go_grown) hw1
    have HT1 := Lib.hid (HT.out.keep b1)
    obtain ⟨c0, -, -, -⟩ := HT1.out.head
    obtain ⟨A, c, hvA, hlc, hcm, hAz, hAt, hcell, -⟩ := HT1.out.arena (by omega)
    obtain ⟨-, -, q2, q3⟩ := hcell i hi
    subst hvA
    generalize T.ar[i] = x at q2 q3 HG
    clear hw1 hcell HT
    cases hx : x.th
    · rw [hx] at q2
      have HG' : Hid (getT T p = none) := by rw [HG.out, hx]; exact rfl
      clear HG hx
      go_wp2
      go_ret2
      rw [HG'.out]
      exact ⟨rfl, b1⟩
    · rw [hx] at q2
      have HG' : Hid (getT T p = some x.v) := by rw [HG.out, hx]; exact rfl
      clear HG hx
      go_wp2
      go_ret2
      rw [HG'.out]
      exact ⟨rfl, b1⟩

def insT (T : Tr) (p : Pf) : Bool := match atT T p with
  | none => false
  | some i => decide (¬ ((T.ar.getD i nd0).k0 = 0 ∧ (T.ar.getD i nd0).k1 = 0))
set_option maxHeartbeats 1000000 in
theorem inside_any (w : World) (t : Nat) (vA vF : Value) (T : Tr) (h : TrA w t vA vF T) (hW : Wf T) (p : Pf) :
    Calls Tryz.prog 58 #[.pointer (some ⟨t, 0, none⟩), .agg #[.int .u64 (u p.a.hi), .int .u64 (u p.a.lo), .bool p.a.v6, .int .i64 p.n]] w fun e w' => e = .returned (.bool (insT T p)) ∧ Below w.heap.size w w' := by
  have HT := Lib.hid h
  have HW := Lib.hid hW
  clear h hW
  cases ha : atT T p with
  | none =>
    have HG : Hid (insT T p = false) := by unfold insT; rw [ha]; exact rfl
    have HA := Lib.hid ha
    clear ha
    go_enter Tryz.func58, Tryz.ntmps58
    go_wp2_with fail
    refine (at_any _ t vA vF T (HT.out.keep (by go_grown)) HW.out p).mono ?_
    rw [HA.out]
    rintro e w1 ⟨rfl, hw1⟩
    have b1 : Below w.heap.size w w1 := below_of (by go_grown) hw1
    go_wp2
    go_ret
    rw [HG.out]
    exact ⟨rfl, b1⟩
  | some i =>
    have hi := atT_lt HW.out ha
    have e0 : T.ar.getD i nd0 = T.ar[i] := by simp [hi]
    have HG : Hid (insT T p = decide (¬ (T.ar[i].k0 = 0 ∧ T.ar[i].k1 = 0))) := by unfold insT; rw [ha, ← e0]; exact rfl
    have HA := Lib.hid ha
    clear ha e0
    go_enter Tryz.func58, Tryz.ntmps58
    go_wp2_with fail
    refine (at_any _ t vA vF T (HT.out.keep (by go_grown)) HW.out p).mono ?_
    rw [HA.out]
    rintro e w1 ⟨rfl, hw1⟩
    have b1 : Below w.heap.size w w1 := below_of (by go_grown) hw1
    have HT1 := Lib.hid (HT.out.keep b1)
    obtain ⟨c0, -, -, -⟩ := HT1.out.head
    obtain ⟨A, c, hvA, hlc, hcm, hAz, hAt, hcell, -⟩ := HT1.out.arena (by omega)
    obtain ⟨q0, q1, -, -⟩ := hcell i hi
    subst hvA
    generalize T.ar[i] = x at q0 q1 HG
    clear hw1 hcell HT
    have e1 : (!(x.k0 : Int) == 0 || !(x.k1 : Int) == 0) = insT T p := by
      rw [HG.out]
      by_cases h1 : x.k0 = 0 <;> by_cases h2 : x.k1 = 0 <;> simp [h1, h2]
    have HE := Lib.hid e1
    clear e1 HG
    go_wp2
    go_ret
    exact ⟨ret_bool HE.out, b1⟩

end Go.Proofs.YtcbfppangiopeaaGreat
