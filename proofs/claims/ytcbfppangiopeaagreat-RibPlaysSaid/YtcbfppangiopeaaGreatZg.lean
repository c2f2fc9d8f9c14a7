/-
  What Del of package trie does. Condition: the tree lies at the pointer's block.
-/
import Derived.Test.YtcbfppangiopeaaGreatZf
namespace Go.Proofs.YtcbfppangiopeaaGreat
open Go.RowKit
set_option maxRecDepth 100000

/-- A number is taken out of a node. -/
def delN (T : Tr) (i : Nat) : Tr := { T with ar := T.ar.set i (setV (T.ar.getD i nd0) false 0), n := T.n - 1 }
def DelPost (w : World) (t : Nat) (S : Nat → Prop) (T : Tr) (p : Pf) (i : Nat) (e : Ending) (w' : World) : Prop :=
  TPost t S w (pruneF p.a (wayN (delN T i) p.a) p.n.toNat (delN T i)) (.int .i64 0) e w'
theorem setV_kids (x : Nd) (th : Bool) (v : Int) (d : Int) : kid (setV x th v) d = kid x d := rfl
/-- Values change no way. -/
theorem nodeAt_setV (ar : List Nd) (i : Nat) (th : Bool) (v : Int) (a : Ad) (k : Nat) : nodeAt (ar.set i (setV (ar.getD i nd0) th v)) a k = nodeAt ar a k := by
  induction k with
  | zero => rfl
  | succ k ih =>
    simp only [nodeAt, ih]
    congr 1
    funext j
    have e : ∀ d, kid ((ar.set i (setV (ar.getD i nd0) th v)).getD j nd0) d = kid (ar.getD j nd0) d := by
      intro d
      by_cases hj : j < ar.length
      · by_cases hij : i = j
        · subst hij
          simp [hj, setV_kids]
        · simp [List.getElem?_set_ne hij]
      · have e1 : ∀ x : Nd, (ar.set i x)[j]? = none := fun x => List.getElem?_eq_none (by simp; omega)
        have e2 : ar.getD j nd0 = nd0 := by rw [List.getD_eq_getElem?_getD, List.getElem?_eq_none (Nat.le_of_not_lt hj)]; rfl
        rw [e2, List.getD_eq_getElem?_getD, e1]
        rfl
    rw [e]
theorem setV_wf {T : Tr} (h : Wf T) (i : Nat) (th : Bool) (v : Int) (n : Int) : Wf { T with ar := T.ar.set i (setV (T.ar.getD i nd0) th v), n := n } := by
  obtain ⟨h1, h2, h3, h4, h5⟩ := h
  refine ⟨by simpa using h1, by simpa using h2, ?_, by simpa using h4, h5⟩
  intro x hx
  simp only [List.length_set]
  by_cases hi : i < T.ar.length
  · rcases List.mem_or_eq_of_mem_set hx with hx | rfl
    · exact h3 x hx
    · have e : T.ar.getD i nd0 = T.ar[i] := by simp [hi]
      rw [e]
      have := h3 _ (List.getElem_mem hi)
      exact this
  · rw [List.set_eq_of_length_le (Nat.le_of_not_lt hi)] at hx
    exact h3 x hx

set_option maxHeartbeats 2000000 in
theorem del_no (w : World) (t : Nat) (p : Pf) (hp : psane p = false) :
    Calls Tryz.prog 45 #[.pointer (some ⟨t, 0, none⟩), .agg #[.int .u64 (u p.a.hi), .int .u64 (u p.a.lo), .bool p.a.v6, .int .i64 p.n]] w fun e w' => e = .returned (.int .i64 1) ∧ Below w.heap.size w w' := by
  have hs' : (!psane p) = true := by simp [hp]
  clear hp
  go_enter Tryz.func45, Tryz.ntmps45
  go_wp2_with fail
  refine (psane_any p _).mono ?_
  rintro e w2 ⟨rfl, hw2⟩
  have zw2 := hw2.size
  have bw2 := below_of (w := w) (by go_grown) hw2
  try simp at zw2
  obtain ⟨p1a, p1b, p1c, p1g, p1d, p1e, p1f, p1h, p1z⟩ := cells4 (b := w.heap.size) hw2 (by go_size) (by go_simp <;> rfl) (by go_simp <;> rfl) (by go_simp <;> rfl) (by go_simp <;> rfl) (by go_simp <;> rfl) (by go_simp <;> rfl) (by go_simp <;> rfl) (by go_simp <;> rfl)
  clear hw2
  go_wp2
  go_ret
  exact ⟨rfl, bw2⟩
set_option maxHeartbeats 2000000 in
theorem del_absent (w : World) (t : Nat) (S : Nat → Prop) (T : Tr) (h : TrS w t S T) (hW : Wf T) (p : Pf) (hp : psane p = true) (hg : getT T p = none) :
    Calls Tryz.prog 45 #[.pointer (some ⟨t, 0, none⟩), .agg #[.int .u64 (u p.a.hi), .int .u64 (u p.a.lo), .bool p.a.v6, .int .i64 p.n]] w fun e w' => e = .returned (.int .i64 2) ∧ Below w.heap.size w w' := by
  have hs' : (!psane p) = false := by simp [hp]
  obtain ⟨vA, vF, rfl, h⟩ := h
  have HT := Lib.hid h
  have HW := Lib.hid hW
  clear hp h hW
  cases ha : atT T p with
  | none =>
    have HA := Lib.hid ha
    clear ha hg
    go_enter Tryz.func45, Tryz.ntmps45
    go_wp2_with fail
    refine (psane_any p _).mono ?_
    rintro e w2 ⟨rfl, hw2⟩
    have zw2 := hw2.size
    have bw2 := below_of (w := w) (by go_grown) hw2
    try simp at zw2
    obtain ⟨p2a, p2b, p2c, p2g, p2d, p2e, p2f, p2h, p2z⟩ := cells4 (b := w.heap.size) hw2 (by go_size) (by go_simp <;> rfl) (by go_simp <;> rfl) (by go_simp <;> rfl) (by go_simp <;> rfl) (by go_simp <;> rfl) (by go_simp <;> rfl) (by go_simp <;> rfl) (by go_simp <;> rfl)
    clear hw2
    go_wp2_with fail
    refine (at_any _ t vA vF T (HT.out.keep bw2) HW.out p).mono ?_
    rw [HA.out]
    rintro e w1 ⟨rfl, hw1⟩
    have b1 : Below w.heap.size w w1 := bw2.trans (hw1.mono bw2.size)
    go_wp2
    go_ret
    exact ⟨rfl, b1⟩
  | some i =>
    have hi := atT_lt HW.out ha
    have e0 : T.ar.getD i nd0 = T.ar[i] := by simp [hi]
    have hth : T.ar[i].th = false := by
      unfold getT at hg
      rw [ha] at hg
      simp only [Option.bind_some, e0] at hg
      cases hx : T.ar[i].th
      · rfl
      · rw [hx] at hg
        simp at hg
    have HA := Lib.hid ha
    have HH := Lib.hid hth
    clear ha hg e0 hth
    go_enter Tryz.func45, Tryz.ntmps45
    go_wp2_with fail
    refine (psane_any p _).mono ?_
    rintro e w2 ⟨rfl, hw2⟩
    have zw2 := hw2.size
    have bw2 := below_of (w := w) (by go_grown) hw2
    try simp at zw2
    obtain ⟨p3a, p3b, p3c, p3g, p3d, p3e, p3f, p3h, p3z⟩ := cells4 (b := w.heap.size) hw2 (by go_size) (by go_simp <;> rfl) (by go_simp <;> rfl) (by go_simp <;> rfl) (by go_simp <;> rfl) (by go_simp <;> rfl) (by go_simp <;> rfl) (by go_simp <;> rfl) (by go_simp <;> rfl)
    clear hw2
    go_wp2_with fail
    refine (at_any _ t vA vF T (HT.out.keep bw2) HW.out p).mono ?_
    rw [HA.out]
    rintro e w1 ⟨rfl, hw1⟩
    have b1 : Below w.heap.size w w1 := bw2.trans (hw1.mono bw2.size)
    have HT1 := Lib.hid (HT.out.keep b1)
    obtain ⟨c0, -, -, -⟩ := HT1.out.head
    obtain ⟨A, c, hvA, hlc, hcm, hAz, hAt, hcell, -⟩ := HT1.out.arena (by omega)
    obtain ⟨-, -, q2, -⟩ := hcell i hi
    rw [HH.out] at q2
    subst hvA
    clear hw1 hcell HT
    clear p3a p3b p3c p3g p3d p3e p3f p3h p3z
    go_wp2
    go_ret
    exact ⟨rfl, b1⟩
set_option maxHeartbeats 2000000 in
theorem del_any (w : World) (t : Nat) (S : Nat → Prop) (T : Tr) (h : TrS w t S T) (hW : Wf T) (hb : T.fr.length + 128 ≤ 1000000000) (hn0 : 0 ≤ T.n) (hn1 : T.n ≤ 1000000000) (p : Pf) (hp : psane p = true) (i : Nat) (ha : atT T p = some i) (hth : (T.ar.getD i nd0).th = true) :
    Calls Tryz.prog 45 #[.pointer (some ⟨t, 0, none⟩), .agg #[.int .u64 (u p.a.hi), .int .u64 (u p.a.lo), .bool p.a.v6, .int .i64 p.n]] w (DelPost w t S T p i) := by
  have hs' : (!psane p) = false := by simp [hp]
  obtain ⟨vA, vF, rfl, h⟩ := h
  have HT := Lib.hid h
  have HW := Lib.hid hW
  have HP := Lib.hid hp
  have hi := atT_lt hW ha
  have e0 : T.ar.getD i nd0 = T.ar[i] := by simp [hi]
  rw [e0] at hth
  have HN : Hid (nodeAt (delN T i).ar p.a p.n.toNat = some i) := by
    have := ha
    unfold atT at this
    rw [if_pos hp] at this
    show nodeAt (T.ar.set i (setV (T.ar.getD i nd0) false 0)) p.a p.n.toNat = some i
    rw [nodeAt_setV]
    exact this
  have HA := Lib.hid ha
  have HH := Lib.hid hth
  clear ha e0 hth hp h hW
  go_enter Tryz.func45, Tryz.ntmps45
  go_wp2_with fail
  refine (psane_any p _).mono ?_
  rintro e w2 ⟨rfl, hw2⟩
  have zw2 := hw2.size
  have bw2 := below_of (w := w) (by go_grown) hw2
  try simp at zw2
  obtain ⟨p4a, p4b, p4c, p4g, p4d, p4e, p4f, p4h, p4z⟩ := cells4 (b := w.heap.size) hw2 (by go_size) (by go_simp <;> rfl) (by go_simp <;> rfl) (by go_simp <;> rfl) (by go_simp <;> rfl) (by go_simp <;> rfl) (by go_simp <;> rfl) (by go_simp <;> rfl) (by go_simp <;> rfl)
  clear hw2
  go_wp2_with fail
  refine (at_any _ t vA vF T (HT.out.keep bw2) HW.out p).mono ?_
  rw [HA.out]
  rintro e w1 ⟨rfl, hw1⟩
  have b1 : Below w.heap.size w w1 := bw2.trans (hw1.mono bw2.size)
  have z1 := hw1.size
  have HP1 := Lib.hid (PBox.keep (b := w.heap.size) (x := p) ⟨p4a, p4b, p4c, p4g, p4d, p4e, p4f, p4h, p4z⟩ hw1)
  have HT1 := Lib.hid (HT.out.keep b1)
  obtain ⟨c0, -, c2, -, -, f2, ct⟩ := HT1.out.head
  obtain ⟨A, c, hvA, hlc, hcm, hAz, hAt, hcell, hfz⟩ := HT1.out.arena (by omega)
  obtain ⟨-, -, q2, q3⟩ := hcell i hi
  have k2 := hfz (i * 4 + 2)
  have k3 := hfz (i * 4 + 3)
  rw [HH.out] at q2
  have hTz := HT.out.lt
  have hn1' : ¬ foot t vA vF w.heap.size := fun e => by have := hTz _ e; omega
  subst hvA
  have hAp : ¬ A = w.heap.size := fun e => hn1' (by rw [← e]; exact .inr (.inl rfl))
  have htp : ¬ t = w.heap.size := fun e => hn1' (by rw [← e]; exact .inl rfl)
  have hd1 : ¬ t = A := fun e => hAt e.symm
  clear hw1 hcell hfz hTz
  clear p4a p4b p4c p4g p4d p4e p4f p4h p4z
  go_wp2_with fail
  go_region
  have HTv := Lib.hid (HT1.out.valset rfl i hi false 0)
  have hfA : Frm (fun b => b = A) w1 ((w1.setCell ⟨A, i * 4 + 2, none⟩ (.bool false)).setCell ⟨A, i * 4 + 3, none⟩ (.int .i64 0)) := ((Frm.refl (fun b => b = A) _).setCell (.inl rfl) _).setCell (.inl rfl) _
  have HPv := Lib.hid (HP1.out.frm hfA (fun e => hAp e.symm))
  have hFv : Frm (foot t (.slice (some ⟨A, 0, none⟩) T.ar.length c) vF) w ((w1.setCell ⟨A, i * 4 + 2, none⟩ (.bool false)).setCell ⟨A, i * 4 + 3, none⟩ (.int .i64 0)) := ((frm_of_below b1).setCell (.inl (.inr (.inl rfl))) _).setCell (.inl (.inr (.inl rfl))) _
  generalize hV0 : World.setCell (World.setCell w1 _ _) _ _ = V0 at HTv hfA HPv hFv ⊢
  have HTd : Hid (TrA V0.drew t (.slice (some ⟨A, 0, none⟩) T.ar.length c) vF { T with ar := T.ar.set i (setV (T.ar.getD i nd0) false 0) }) := HTv
  have HPd : Hid (PBox V0.drew w.heap.size p) := HPv
  have hFd := hFv.drew
  generalize V0.drew = V at HTd HPd hFd ⊢
  obtain ⟨-, -, d2, -, -, g2, dt⟩ := HTd.out.head
  obtain ⟨pa, pb, pc, pd, -, -, -, -, pz⟩ := id HPd.out
  clear hV0 HTv hfA HPv hFv c0 c2 f2 q2 q3 k2 k3 V0
  go_wp2_with fail
  refine (prune_any _ t _ (delN T i) ⟨_, _, rfl, HTd.out.count (T.n - 1)⟩ (setV_wf HW.out i false 0 _) hb p HP.out i HN.out).mono ?_
  rintro e w5 ⟨rfl, S5, hT5, hF5, hS5⟩
  have HT5 := Lib.hid hT5
  have hF6 := (hFd.setCell (p := ⟨t, 2, none⟩) (.inl (.inl rfl)) (.int .i64 (T.n - 1))).trans hF5 (Sub.refl _ _)
  have hS6 : Sub (foot t (.slice (some ⟨A, 0, none⟩) T.ar.length c) vF) S5 w.heap.size := fun b hb => (hS5 b hb).imp id (fun h => by have := hFd.size; simp [World.setCell] at h; omega)
  clear hT5 hF5 hS5
  go_wp2
  go_ret
  exact ⟨rfl, S5, HT5.out, hF6, hS6⟩

end Go.Proofs.YtcbfppangiopeaaGreat
