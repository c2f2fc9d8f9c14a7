/-
  What has, At, Used, New of the document's answer for layer 9 return. Condition: it lies where the argument says.
-/
import Derived.Test.YtebgkoimphjagaaSj
namespace Go.Proofs.Ytebgkoimphjagaa
open Go.RowKit
set_option maxRecDepth 100000

theorem Kd.rd1 {α : Type} {K : Kd α} (h1 : K.k = 1) {w : World} {A : Option Addr} {l : List α} (h : K.Rd w A l) {k : Nat} (hk : k < l.length) : ∃ g off, A = some ⟨g, off, none⟩ ∧ g < w.heap.size ∧ w.cell? ⟨g, off + k, none⟩ = (K.enc l[k])[0]? := by
  obtain ⟨g, off, e, hg, hc⟩ := h (by rintro rfl; cases hk)
  refine ⟨g, off, e, hg, ?_⟩
  have := hc k hk 0 K.pos
  rw [h1, show off + k * 1 + 0 = off + k from by omega] at this
  exact this
theorem isS_at (s : Sl) (j : Nat) (h : j < (isS s).length) : (isS s)[j] = (s.atN j).is := by simp [isS]
theorem vsS_at (s : Sl) (j : Nat) (h : j < (vsS s).length) : (vsS s)[j] = (s.atN j).x := by simp [vsS]
theorem RfS.is {w : World} {r : Rw} {s : Sl} (h : RfS w r s) {j : Nat} (hj : j < s.most) : ∃ g off, r.B = some ⟨g, off, none⟩ ∧ g < w.heap.size ∧ w.cell? ⟨g, off + j, none⟩ = some (.bool (s.atN j).is) := by
  have hl : j < (isS s).length := by rw [isS_len]; exact hj
  obtain ⟨g, off, e1, e2, e3⟩ := Kd.rd1 rfl h.B hl
  rw [isS_at] at e3
  exact ⟨g, off, e1, e2, e3⟩
theorem RfS.val {w : World} {r : Rw} {s : Sl} (h : RfS w r s) {j : Nat} (hj : j < s.most) : ∃ g off, r.A = some ⟨g, off, none⟩ ∧ g < w.heap.size ∧ w.cell? ⟨g, off + j, none⟩ = some (.int .i64 (s.atN j).x) := by
  have hl : j < (vsS s).length := by rw [vsS_len]; exact hj
  obtain ⟨g, off, e1, e2, e3⟩ := Kd.rd1 rfl h.A hl
  rw [vsS_at] at e3
  exact ⟨g, off, e1, e2, e3⟩
/-- The document's answer as a value. -/
def Rw.v (r : Rw) (s : Sl) : Value := .agg #[r.va s, r.vb s, r.vc s, .int .i64 s.pl.length]

set_option maxHeartbeats 1000000 in
theorem rhas_any (w : World) (r : Rw) (s : Sl) (h : RfS w r s) (hk : s.Ok) (i : Int) :
    Calls Try.prog 26 #[r.v s, .int .i64 i] w fun e w' => e = .returned (.bool (s.has i)) ∧ Below w.heap.size w w' := by
  have k1 := hk.most
  have k2 := hk.pl
  cases h0 : decide (0 ≤ i)
  · have HE : Hid (s.has i = false) := Lib.hid (by unfold Sl.has; rw [h0]; rfl)
    clear h hk
    unfold Rw.v Rw.va Rw.vb Rw.vc
    go_enter Try.func26, Try.ntmps26
    go_wp2
    go_ret
    rw [HE.out]
    exact ⟨rfl, by go_grown⟩
  · have i0 : 0 ≤ i := of_decide_eq_true h0
    obtain ⟨k, rfl⟩ := Int.eq_ofNat_of_zero_le i0
    cases h1 : decide ((k : Int) < (s.most : Int))
    · have i1 : ¬ (k : Int) < (s.most : Int) := of_decide_eq_false h1
      have HE : Hid (s.has (k : Int) = false) := Lib.hid (by rw [has_nat, atN_out s k (by omega)]; rfl)
      clear h hk
      unfold Rw.v Rw.va Rw.vb Rw.vc
      go_enter Try.func26, Try.ntmps26
      go_wp2
      go_ret
      rw [HE.out]
      exact ⟨rfl, by go_grown⟩
    · have i1 : k < s.most := by simpa using h1
      obtain ⟨g, off, e, hg, hc⟩ := h.is i1
      have HE : Hid (s.has (k : Int) = (s.atN k).is) := Lib.hid (has_nat s k)
      generalize (s.atN k).is = y at hc HE
      obtain ⟨A, ca, B, cb, C, cc⟩ := r
      simp only at e
      subst e
      clear h hk
      unfold Rw.v Rw.va Rw.vb Rw.vc
      simp only
      go_enter Try.func26, Try.ntmps26
      go_wp2
      go_ret
      rw [HE.out]
      exact ⟨rfl, by go_grown⟩
set_option maxHeartbeats 1000000 in
theorem rat_any (w : World) (r : Rw) (s : Sl) (h : RfS w r s) (hk : s.Ok) (i : Int) :
    Calls Try.prog 27 #[r.v s, .int .i64 i] w fun e w' => e = .returned (.tuple #[.int .i64 (s.at i), .bool (s.has i)]) ∧ Below w.heap.size w w' := by
  have hc := fun W (hb : Below w.heap.size w W) => rhas_any W r s (h.keep hb) hk i
  have k2 := hk.pl
  have k1 := hk.most
  cases hh : s.has i
  · have HE : Hid (s.at i = 0) := Lib.hid (by unfold Sl.at; rw [if_neg (by simp [hh])])
    rw [hh] at hc
    have HC := Lib.hid hc
    clear h hk hc hh
    unfold Rw.v Rw.va Rw.vb Rw.vc at *
    go_enter Try.func27, Try.ntmps27
    go_wp2_with fail
    refine (HC.out _ (by go_grown)).mono ?_
    rintro e w1 ⟨rfl, b1⟩
    have hb := below_of (w := w) (by go_grown) b1
    clear b1
    go_wp2
    go_ret2
    rw [HE.out]
    exact ⟨rfl, hb⟩
  · obtain ⟨i0, i1, -⟩ := has_bd hh
    obtain ⟨k, rfl⟩ := Int.eq_ofNat_of_zero_le i0
    rw [Int.toNat_natCast] at i1
    have HE : Hid (s.at (k : Int) = (s.atN k).x) := Lib.hid (by unfold Sl.at; rw [if_pos hh, Int.toNat_natCast])
    obtain ⟨g, off, e, hg, hv⟩ := h.val (show k < s.most by omega)
    generalize (s.atN k).x = y at hv HE
    rw [hh] at hc
    have HC := Lib.hid hc
    have i2 : (k : Int) < (s.most : Int) := by omega
    obtain ⟨A, ca, B, cb, C, cc⟩ := r
    simp only at e
    subst e
    clear h hk hc hh
    unfold Rw.v Rw.va Rw.vb Rw.vc at *
    simp only at HC
    go_enter Try.func27, Try.ntmps27
    go_wp2_with fail
    refine (HC.out _ (by go_grown)).mono ?_
    rintro e w1 ⟨rfl, b1⟩
    have hb := below_of (w := w) (by go_grown) b1
    have hv1 := (hb.cell (p := ⟨g, off + k, none⟩) hg).trans hv
    have hx0 := (b1.block w.heap.size (by simp)).trans (hp_new rfl)
    have hx : w1.cell? ⟨w.heap.size, 0, none⟩ = some (.slice (some ⟨g, off, none⟩) s.most ca) := by rw [cell_row hx0]; rfl
    clear b1 hx0
    go_wp2
    go_ret2
    rw [HE.out]
    exact ⟨rfl, hb⟩

end Go.Proofs.Ytebgkoimphjagaa
