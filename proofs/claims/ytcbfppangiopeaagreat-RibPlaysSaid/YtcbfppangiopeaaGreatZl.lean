/-
  What Longest of package trie returns. Condition: the tree lies at the pointer's block.
-/
import Derived.Test.YtcbfppangiopeaaGreatZo
namespace Go.Proofs.YtcbfppangiopeaaGreat
open Go.RowKit
set_option maxRecDepth 100000

set_option maxHeartbeats 16000000 in
theorem long1_any (w0 w : World) (t : Nat) (vA vF : Value) (T : Tr) (hT : TrA w t vA vF T) (hW : Wf T) (p : Pf) (a : Ad) (b k i : Nat) (S : Nat → Prop) (h : LongI w0 t T p a b k S w) (hlt : ∀ x, foot t vA vF x → x < b) (hi : nodeAt T.ar p.a k = some i) :
    Calls Tryz.prog 70 #[.int .i64 k, .int .i64 i, .pointer (some ⟨b, 0, none⟩), .pointer (some ⟨b + 1, 0, none⟩), .pointer (some ⟨b + 1 + 1 + 1, 0, none⟩), .pointer (some ⟨b + 1 + 1 + 1 + 1, 0, none⟩)] w fun e w' => e = .returned (.tuple #[]) ∧ ∃ S', LongI w0 t T p a b (k + 1) S' w' ∧ Frm S w w' ∧ Sub S S' w.heap.size := by
  obtain ⟨rfl, hB, hTb, hA', h1, h2, h3⟩ := h
  have hi' := nodeAt_lt hW p.a k i hi
  have e0 : T.ar.getD i nd0 = T.ar[i] := by simp [hi']
  have hL : longK T p.a a (k + 1) = (if T.ar[i].th = true then some ⟨pof a k, T.ar[i].v⟩ else longK T p.a a k) := by simp only [longK, hi, e0]
  obtain ⟨c0, -, -, -, -, -, ct⟩ := hT.head
  obtain ⟨A, c, hvA, hlc, hcm, hAz, hAt, hcell, -⟩ := hT.arena (by have := hW.1; omega)
  obtain ⟨-, -, q2, q3⟩ := hcell i hi'
  subst hvA
  generalize T.ar[i] = x at q2 q3 hL
  have cT := cell_of_one hTb
  have zT := lt_of_block hTb
  have z1 := lt_of_block h1
  have z2 := lt_of_block h2
  obtain ⟨pa, pb, pc, pz⟩ := id hA'
  have H1 := Lib.hid h1
  have H2 := Lib.hid h2
  have H3 := Lib.hid h3
  have HA := Lib.hid hA'
  have HT := Lib.hid hT
  have HTb := Lib.hid hTb
  have HL := Lib.hid hL
  clear hi hT hTb hcell e0 hL hA' h3
  cases hx : x.th
  · rw [hx] at q2
    have HL' : Hid (longK T p.a a (k + 1) = longK T p.a a k) := by rw [HL.out, hx]; exact rfl
    clear hx HL h1 h2
    go_enter Tryz.func70, Tryz.ntmps70
    go_wp2
    go_end0
    refine ⟨rfl, _, ⟨rfl, hB, HTb.out, HA.out, ?_, ?_, H3.out⟩, Frm.refl _ _, Sub.refl _ _⟩
    · rw [HL'.out]
      exact H1.out
    · rw [HL'.out]
      exact H2.out
  · rw [hx] at q2
    have HL' : Hid (longK T p.a a (k + 1) = some ⟨pof a k, x.v⟩) := by rw [HL.out, hx]; exact rfl
    obtain ⟨y, hy⟩ : ∃ y, (longK T p.a a k).getD nilPr = y := ⟨_, rfl⟩
    obtain ⟨z, hz⟩ : ∃ z, (longK T p.a a k).isSome = z := ⟨_, rfl⟩
    rw [hy] at h1
    rw [hz] at h2
    clear hx HL H1 H2 hy hz
    go_enter Tryz.func70, Tryz.ntmps70
    go_wp2_with fail
    have m0 : w.cell? ⟨b + 1 + 1 + 1, 0, none⟩ = some (.int .u64 (u y.p.a.hi)) := by rw [cell_row h1]; rfl
    have m1 : w.cell? ⟨b + 1 + 1 + 1, 1, none⟩ = some (.int .u64 (u y.p.a.lo)) := by rw [cell_row h1]; rfl
    have m2 : w.cell? ⟨b + 1 + 1 + 1, 2, none⟩ = some (.bool y.p.a.v6) := by rw [cell_row h1]; rfl
    have m3 : w.cell? ⟨b + 1 + 1 + 1, 3, none⟩ = some (.int .i64 y.p.n) := by rw [cell_row h1]; rfl
    have m4 : w.cell? ⟨b + 1 + 1 + 1, 4, none⟩ = some (.int .i64 y.v) := by rw [cell_row h1]; rfl
    have n0 := frozen_of_row w (b + 1 + 1 + 1) 0 _ _ h1
    have n1 := frozen_of_row w (b + 1 + 1 + 1) 1 _ _ h1
    have n2 := frozen_of_row w (b + 1 + 1 + 1) 2 _ _ h1
    have n3 := frozen_of_row w (b + 1 + 1 + 1) 3 _ _ h1
    have n4 := frozen_of_row w (b + 1 + 1 + 1) 4 _ _ h1
    have m5 := cell_of_one h2
    have n5 := free_of_one h2
    have hAb : A < b := hlt A (.inr (.inl rfl))
    have htb : t < b := hlt t (.inl rfl)
    have hA3 : ¬ A = b + 1 + 1 + 1 := by omega
    have hA3' : ¬ b + 1 + 1 + 1 = A := by omega
    have ht3 : ¬ t = b + 1 + 1 + 1 := by omega
    have ht3' : ¬ b + 1 + 1 + 1 = t := by omega
    have HH1 := Lib.hid h1
    have HH2 := Lib.hid h2
    clear h1 h2 hlt
    go_region_law (first | (go_simp; go_at_call 12; refine (pof_any a k _).mono ?_; rintro e w5 ⟨rfl, hw5⟩; have b5 : Below w.heap.size w w5 := Below.trans (by go_grown) (hw5.mono (by first | exact Nat.le_refl _ | (simp; done) | (simp; omega))); have z5 := b5.size; obtain ⟨k0, k1⟩ := bcell b5; have N7 := Lib.hid (long_step T p k HH1.out HH2.out H3.out HTb.out HA.out hB HL'.out b5); clear hw5))
    all_goals
      go_wp2
      go_end0
      exact ⟨rfl, N7.out⟩

end Go.Proofs.YtcbfppangiopeaaGreat
