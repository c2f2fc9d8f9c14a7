/-
  What made, root, Len, Nodes, Slots of package trie return, and how along shows the nodes. Condition: the tree lies at the pointer's block.
-/
import Derived.Test.YtcbfppangiopeaaGreatZa
import Derived.Shelf.Abstract
namespace Go.Proofs.YtcbfppangiopeaaGreat
open Go.RowKit
set_option maxRecDepth 100000

set_option maxHeartbeats 400000 in
theorem root_any (v : Bool) (w : World) : Calls Tryz.prog 87 #[.bool v] w fun e w' => e = .returned (.int .i64 (rootN v)) ∧ w = w' := by
  cases v <;>
  · go_enter Tryz.func87, Tryz.ntmps87
    go_wp2
    go_ret
    exact ⟨rfl, rfl⟩
set_option maxHeartbeats 400000 in
theorem made_yes (w : World) (t : Nat) (vA vF : Value) (T : Tr) (h : TrA w t vA vF T) (h2 : 2 ≤ T.ar.length) : Calls Tryz.prog 65 #[.pointer (some ⟨t, 0, none⟩)] w fun e w' => e = .returned (.bool true) ∧ w = w' := by
  obtain ⟨c0, -, -, -⟩ := h.head
  obtain ⟨A, c, rfl, -⟩ := h.arena (by omega)
  have t0 : decide ((2 : Int) ≤ (T.ar.length : Int)) = true := by simp; omega
  clear h
  go_enter Tryz.func65, Tryz.ntmps65
  go_wp2
  go_ret
  exact ⟨rfl, rfl⟩
set_option maxHeartbeats 400000 in
theorem len_any (w : World) (t : Nat) (vA vF : Value) (T : Tr) (h : TrA w t vA vF T) : Calls Tryz.prog 54 #[.pointer (some ⟨t, 0, none⟩)] w fun e w' => e = .returned (.int .i64 T.n) ∧ w = w' := by
  obtain ⟨-, -, c2, -⟩ := h.head
  clear h
  go_enter Tryz.func54, Tryz.ntmps54
  go_wp2
  go_ret
  exact ⟨rfl, rfl⟩
set_option maxHeartbeats 400000 in
theorem slots_any (w : World) (t : Nat) (vA vF : Value) (T : Tr) (h : TrA w t vA vF T) (h2 : 2 ≤ T.ar.length) : Calls Tryz.prog 56 #[.pointer (some ⟨t, 0, none⟩)] w fun e w' => e = .returned (.int .i64 T.ar.length) ∧ w = w' := by
  obtain ⟨c0, -, -, -⟩ := h.head
  obtain ⟨A, c, rfl, -⟩ := h.arena (by omega)
  clear h
  go_enter Tryz.func56, Tryz.ntmps56
  go_wp2
  go_ret
  exact ⟨rfl, rfl⟩
set_option maxHeartbeats 400000 in
theorem nodes_any (w : World) (t : Nat) (vA vF : Value) (T : Tr) (h : TrA w t vA vF T) (h2 : 2 ≤ T.ar.length) (hf : T.fr.length ≤ 1000000000) (h9 : T.ar.length ≤ 1000000000) : Calls Tryz.prog 55 #[.pointer (some ⟨t, 0, none⟩)] w fun e w' => e = .returned (.int .i64 ((T.ar.length : Int) - T.fr.length)) ∧ ∃ n, w' = w.drewN n := by
  obtain ⟨c0, c1, -, -⟩ := h.head
  obtain ⟨A, c, rfl, -⟩ := h.arena (by omega)
  obtain ⟨F, d, rfl, -⟩ := own_val h.2.2
  clear h
  go_enter Tryz.func55, Tryz.ntmps55
  go_wp2_with fail
  go_quiet (fail)
  go_wp2
  go_ret
  exact ⟨rfl, _, rfl⟩

/-- What a function that is shown nodes keeps: I k S w: k nodes were shown, S are its blocks. -/
structure Sees (T : Tr) (t : Nat) (vA vF : Value) (p : Pf) (f : FuncId) (cap : Array Value) (I : Nat → (Nat → Prop) → World → Prop) : Prop where
  see : ∀ k i S w, I k S w → TrA w t vA vF T → (k : Int) ≤ p.n → nodeAt T.ar p.a k = some i → Calls Tryz.prog f (#[.int .i64 k, .int .i64 i] ++ cap) w fun e w' => e = .returned (.tuple #[]) ∧ ∃ S', I (k + 1) S' w' ∧ Frm S w w' ∧ Sub S S' w.heap.size
  keep : ∀ k S w w', I k S w → Below w.heap.size w w' → I k S w'
  lt : ∀ k S w, I k S w → ∀ b, S b → b < w.heap.size ∧ ¬ foot t vA vF b
def AlongPost (T : Tr) (p : Pf) (I : Nat → (Nat → Prop) → World → Prop) (S : Nat → Prop) (w : World) (e : Ending) (w' : World) : Prop :=
  e = .returned (.tuple #[]) ∧ ∃ (S' : Nat → Prop) (m : Nat), I (m + 1) S' w' ∧ Frm S w w' ∧ Sub S S' w.heap.size ∧ (m : Int) ≤ p.n ∧ (∃ i, nodeAt T.ar p.a m = some i) ∧ ((m : Int) = p.n ∨ nodeAt T.ar p.a (m + 1) = none)
/-- At the head of a round of along. -/
def AlongRel (T : Tr) (t : Nat) (vA vF : Value) (p : Pf) (I : Nat → (Nat → Prop) → World → Prop) (S : Nat → Prop) (w : World) (i n : Value) (wr : World) : Prop :=
  ∃ (k j : Nat) (S' : Nat → Prop), (k : Int) ≤ p.n ∧ n = .int .i64 k ∧ i = .int .i64 j ∧ nodeAt T.ar p.a k = some j ∧ I (k + 1) S' wr ∧ TrA wr t vA vF T ∧ PBox wr w.heap.size p ∧ ¬ S' w.heap.size ∧ Frm S w wr ∧ Sub S S' w.heap.size
theorem bitv_01 (a : Ad) (k : Int) : bitv a k = 0 ∨ bitv a k = 1 := by
  unfold bitv
  split
  · have := u_bit (wordOf (norm a) k >>> (plc k).toNat)
    omega
  · exact .inl rfl
theorem kid_cell {w : World} {T : Tr} (A : Nat) (hc : ∀ i, (hi : i < T.ar.length) → w.cell? ⟨A, i * 4, none⟩ = some (.int .i64 T.ar[i].k0) ∧ w.cell? ⟨A, i * 4 + 1, none⟩ = some (.int .i64 T.ar[i].k1) ∧ w.cell? ⟨A, i * 4 + 2, none⟩ = some (.bool T.ar[i].th) ∧ w.cell? ⟨A, i * 4 + 3, none⟩ = some (.int .i64 T.ar[i].v)) (a : Ad) (k : Int) (j : Nat) (hj : j < T.ar.length) :
    w.cell? ⟨A, j * 4 + (bitv a k).toNat, none⟩ = some (.int .i64 (kid (T.ar.getD j nd0) (bitv a k))) := by
  have e : T.ar.getD j nd0 = T.ar[j] := by simp [hj]
  rw [e]
  rcases bitv_01 a k with h | h
  · rw [h]
    exact (hc j hj).1
  · rw [h]
    exact (hc j hj).2.1

set_option maxHeartbeats 2000000 in
theorem along_any (w : World) (t : Nat) (vA vF : Value) (T : Tr) (h : TrA w t vA vF T) (hW : Wf T) (p : Pf) (hp : psane p = true) (f : FuncId) (hent : Enters Tryz.prog f) (cap : Array Value) (I : Nat → (Nat → Prop) → World → Prop) (hI : Sees T t vA vF p f cap I) (S : Nat → Prop) (h0 : I 0 S w) :
    Calls Tryz.prog 69 #[.pointer (some ⟨t, 0, none⟩), .agg #[.int .u64 (u p.a.hi), .int .u64 (u p.a.lo), .bool p.a.v6, .int .i64 p.n], .func (.func f) #[] cap] w (AlongPost T p I S w) := by
  have HT := Lib.hid h
  have HI := Lib.hid hI
  have H0 := Lib.hid h0
  obtain ⟨n0, n1⟩ := psane_bd hp
  have n2 := (wid_bd p.a.v6).2
  have HW := Lib.hid hW
  have hs' : (!psane p) = false := by simp [hp]
  have hE : ∀ args w, (callFunc f args).run Tryz.prog w = .ok (.enter f args) w := hent
  clear h hI h0 hW hp hent
  go_enter Tryz.func69, Tryz.ntmps69
  go_wp2_with fail
  refine (made_yes _ t vA vF T (HT.out.keep (by go_grown)) HW.out.1).mono ?_
  rintro e w1 ⟨rfl, rfl⟩
  go_wp2_with fail
  refine (psane_any p _).mono ?_
  rintro e w2 ⟨rfl, hw2⟩
  have zw2 := hw2.size
  have bw2 := below_of (w := w) (by go_grown) hw2
  try simp at zw2
  obtain ⟨p1a, p1b, p1c, p1g, p1d, p1e, p1f, p1h, p1z⟩ := cells4 (b := w.heap.size) hw2 (by go_size) (by go_simp <;> rfl) (by go_simp <;> rfl) (by go_simp <;> rfl) (by go_simp <;> rfl) (by go_simp <;> rfl) (by go_simp <;> rfl) (by go_simp <;> rfl) (by go_simp <;> rfl)
  clear hw2
  go_wp2_with fail
  refine (root_any p.a.v6 _).mono ?_
  rintro e w3 ⟨rfl, rfl⟩
  go_wp2_with fail
  refine (HI.out.see 0 (rootN p.a.v6) S w2 (HI.out.keep _ _ _ _ H0.out bw2) (HT.out.keep bw2) n0 rfl).mono ?_
  rintro e w4 ⟨rfl, S4, hI4, hf4, hs4⟩
  have hP := PBox.frm (S := S) (b := w.heap.size) (x := p) ⟨p1a, p1b, p1c, p1g, p1d, p1e, p1f, p1h, p1z⟩ hf4 (fun e => by have := (HI.out.lt _ _ _ H0.out _ e).1; omega)
  have hn4 : ¬ S4 w.heap.size := fun e => by
    rcases hs4 _ e with q | q
    · have := (HI.out.lt _ _ _ H0.out _ q).1
      omega
    · omega
  have hT4 := (HT.out.keep bw2).frm hf4 (fun b hb hS => (HI.out.lt _ _ _ (HI.out.keep _ _ _ _ H0.out bw2) b hS).2 hb)
  have hF4 := (frm_of_below (S := S) bw2).trans hf4 (Sub.refl _ _)
  have hS4 : Sub S S4 w.heap.size := fun b hb => (hs4 b hb).imp id (fun h => by omega)
  have HI4 := Lib.hid hI4
  clear p1a p1b p1c p1g p1d p1e p1f p1h p1z
  obtain ⟨pa, pb, pc, pd, -⟩ := id hP
  clear hI4 hf4 hs4 bw2 zw2
  go_wp2_with fail
  go_loopw [6, 25] (fun i n wr => AlongRel T t vA vF p I S w i n wr) (fun _ n _ => (p.n - intOf n).toNat)
  case atStart => exact ⟨0, rootN p.a.v6, S4, n0, rfl, rfl, rfl, HI4.out, hT4, hP, hn4, hF4, hS4⟩
  case round =>
    obtain ⟨k, j, S', hk, rfl, rfl, hj, hI', hT', hP', hn', hF', hS'⟩ := hrel
    have HIk := Lib.hid hI'
    have HJ := Lib.hid hj
    have HTk := Lib.hid hT'
    clear hI' hj hT' pa pb pc pd hP hn4 hT4 hF4 hS4 HI4
    obtain ⟨pa, pb, pc, pd, -, -, -, -, pz⟩ := id hP'
    by_cases hlt : (k : Int) < p.n
    · obtain ⟨c0, -, -, -⟩ := HTk.out.head
      have hz0 := HTk.out.head.2.2.2.2.2.2
      have hj' := nodeAt_lt HW.out p.a k j HJ.out
      obtain ⟨A, c, hvA, hlc, hcm, hAz, hAt, hcell, -⟩ := HTk.out.arena (by omega)
      have hkc := kid_cell A hcell p.a k j hj'
      have hb1 := bitv_01 p.a (k : Int)
      have hb2 : 0 ≤ bitv p.a (k : Int) ∧ bitv p.a (k : Int) < 2 := by omega
      have hnx : nodeAt T.ar p.a (k + 1) = if kid (T.ar.getD j nd0) (bitv p.a k) = 0 then none else some (kid (T.ar.getD j nd0) (bitv p.a k)) := by
        simp only [nodeAt, HJ.out, Option.bind_some]
      generalize kid (T.ar.getD j nd0) (bitv p.a k) = g at hkc hnx
      have HN := Lib.hid hnx
      clear hcell hb1 hnx
      subst hvA
      go_wp2_with fail
      obtain ⟨W, rfl⟩ : ∃ W, W = wr := ⟨_, rfl⟩
      have L0 := fun x : Later W.heap.size W => (x.cell hz0).trans c0
      have L1 := fun x : Later W.heap.size W => (x.cell hAz).trans hkc
      have La := fun x : Later W.heap.size W => (x.cell pz).trans pa
      have Lb := fun x : Later W.heap.size W => (x.cell pz).trans pb
      have Lc := fun x : Later W.heap.size W => (x.cell pz).trans pc
      refine region_later W.heap.size (by kernel_rfl) (by kernel_rfl) ?_
      repeat (go_big_quiet_step ((go_at_call 90; exact later_of (Nat.le_refl _) (bit_any _ _ _))))
      refine wpQuiet_nil ?_
      intro x
      have hx := x.below
      generalize x.at = w5 at hx ⊢
      clear x L0 L1 La Lb Lc hkc c0 pa pb pc pd
      have hP5 := hP'.keep hx
      have HT5 := Lib.hid (HTk.out.keep hx)
      have HI5 := Lib.hid (HI.out.keep _ _ _ _ HIk.out hx)
      have hF5 := hF'.then hx
      obtain ⟨pa, pb, pc, pd, -, -, -, -, pz5⟩ := id hP5
      have hlt5 := HI.out.lt _ _ _ HI5.out
      have z5 := hF5.size
      clear HIk HTk hF' hP' hx pz
      by_cases hg : g = 0
      · subst hg
        have HN' : nodeAt T.ar p.a (k + 1) = none := HN.out
        have HL := Lib.hid hlt5
        have HNN := Lib.hid HN'
        clear HN' HN hlt5
        go_wp2
        go_end0
        exact ⟨rfl, S', k, HI5.out, hF5, hS', hk, ⟨j, HJ.out⟩, .inr HNN.out⟩
      · have hg1 : ((g : Int) == 0) = false := by simp; omega
        have HN' : nodeAt T.ar p.a (k + 1) = some g := by rw [HN.out, if_neg hg]
        have HL := Lib.hid hlt5
        have HNN := Lib.hid HN'
        have n3 : (k : Int) + 1 ≤ 128 := by omega
        clear HN' HN hlt5 hg
        go_wp2_with fail
        have e1 : (k : Int) + 1 = ((k + 1 : Nat) : Int) := by omega
        rw [e1]
        refine (HI.out.see (k + 1) g S' w5 HI5.out HT5.out (by omega) HNN.out).mono ?_
        rintro e w6 ⟨rfl, S6, hI6, hf6, hs6⟩
        have hP6 := hP5.frm hf6 hn'
        have hn6 : ¬ S6 w.heap.size := fun e => by
          rcases hs6 _ e with q | q
          · exact hn' q
          · omega
        have hT6 := HT5.out.frm hf6 (fun b hb hS => (HL.out b hS).2 hb)
        have hF6 := hF5.trans hf6 hS'
        have hS6 : Sub S S6 w.heap.size := hS'.trans hs6 z5
        have HI6 := Lib.hid hI6
        clear hI6 hf6 hs6 pa pb pc pd e1
        go_wp2
        go_roundw
        case rel => exact ⟨k + 1, g, S6, by omega, by go_num, rfl, HNN.out, HI6.out, hT6, hP6, hn6, hF6, hS6⟩
        case measure => simp [intOf]; omega
    · have hkn : (k : Int) = p.n := by omega
      have HK := Lib.hid hkn
      have t1 : decide ((k : Int) < p.n) = false := by simp; omega
      clear hkn
      go_wp2
      go_end0
      exact ⟨rfl, S', k, HIk.out, hF', hS', hk, ⟨j, HJ.out⟩, .inl HK.out⟩

end Go.Proofs.YtcbfppangiopeaaGreat
