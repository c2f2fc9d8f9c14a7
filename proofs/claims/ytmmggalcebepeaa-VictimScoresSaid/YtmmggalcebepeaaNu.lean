/-
  What the example of layer 12 tells, and rows of equal numbers. Condition: the numbers lie where the arguments say.
-/
import Derived.Test.YtmmggalcebepeaaNt
namespace Go.Proofs.Ytmmggalcebepeaa
open Go.RowKit
set_option maxRecDepth 100000

theorem KI_rd12 {w : World} {A : Option Addr} {l : List Int} (h : KI.Rd w A l) {k : Nat} (hk : k < l.length) : ∃ g off, A = some ⟨g, off, none⟩ ∧ g < w.heap.size ∧ w.cell? ⟨g, off + k, none⟩ = some (.int .i64 l[k]) := by
  obtain ⟨g, off, e, hg, hc⟩ := h (by rintro rfl; cases hk)
  refine ⟨g, off, e, hg, ?_⟩
  have := hc k hk 0 (by decide)
  rw [show off + k * KI.k + 0 = off + k from by simp [KI]] at this
  exact this
set_option maxHeartbeats 2000000 in
theorem ints12_any (l : List Int) (A B : Option Addr) (ca cb : Nat) (w : World) (hA : KI.Rd w A l) (hB' : KI.Rd w B l) (hl : l.length ≤ 100000000) :
    Calls Try.prog 11 #[.slice A l.length ca, .slice B l.length cb] w fun e w' => e = .returned (.bool true) ∧ Below w.heap.size w w' := by
  have HA := Lib.hid hA
  have HB := Lib.hid hB'
  clear hA hB'
  go_enter Try.func11, Try.ntmps11
  go_wp2_with fail
  go_loopw [5] (fun i wr => ∃ k : Nat, k ≤ l.length ∧ i = .int .i64 k ∧ Below w.heap.size w wr) (fun i _ => l.length - (RowKit.intOf i).toNat)
  case atStart => exact ⟨0, Nat.zero_le _, rfl, Below.refl _ _⟩
  case round =>
    obtain ⟨k, hk, rfl, hB⟩ := hrel
    by_cases hlt : k < l.length
    · have hlt' : (k : Int) < (l.length : Int) := by omega
      have hk9 : (k : Int) + 1 ≤ 1000000000 := by omega
      obtain ⟨g, off, rfl, hg, a0⟩ := KI_rd12 HA.out hlt
      obtain ⟨g', off', rfl, hg', b0⟩ := KI_rd12 HB.out hlt
      generalize l[k] = r at a0 b0
      obtain ⟨W, rfl⟩ : ∃ W, W = wr := ⟨_, rfl⟩
      have hz := hB.size
      have A0 := fun x : Later W.heap.size W => (x.cell (p := ⟨g, off + k, none⟩) (by simp only; omega)).trans ((hB.cell (p := ⟨g, off + k, none⟩) hg).trans a0)
      have B0 := fun x : Later W.heap.size W => (x.cell (p := ⟨g', off' + k, none⟩) (by simp only; omega)).trans ((hB.cell (p := ⟨g', off' + k, none⟩) hg').trans b0)
      clear a0 b0
      go_wp2_with fail
      refine region_later W.heap.size (by kernel_rfl) (by kernel_rfl) ?_
      repeat (go_big_quiet_step (fail))
      refine wpQuiet_nil ?_
      intro x
      have hx : Below w.heap.size w x.at := hB.trans (x.below.mono hz)
      clear A0 B0
      generalize x.at = w2 at *
      clear x
      go_wp2_with fail
      refine ⟨⟨k + 1, by omega, by go_num, hx⟩, by simp [RowKit.intOf]; omega⟩
    · obtain rfl : k = l.length := by omega
      have hlt' : ¬ (l.length : Int) < (l.length : Int) := by omega
      go_wp2
      go_ret
      exact ⟨rfl, hB⟩

theorem ke_block {w : World} {b : Nat} {l : List Ent} {cs : List Value} (hcs : cs = KE.row l) (h : w.heap[b]? = some (.cells cs.toArray 35 (0, 0))) : KE.Rd w (some ⟨b, 0, none⟩) l := fun _ => by
  subst hcs
  refine ⟨b, 0, rfl, lt_of_block h, fun i hi j hj => ?_⟩
  rw [Nat.zero_add, cell_row h]
  have := KE.row_at l i hi j hj
  rw [← this]
  simp
def L4 : List Ent := [⟨10, 3⟩, ⟨11, 1⟩, ⟨12, 1⟩, ⟨13, 2⟩]
def L2 : List Ent := [⟨10, 3⟩, ⟨11, 5⟩]
theorem l4_is : chI 1 L4 = 12 ∧ decide (0 < L4.length) = true := by decide
theorem l2_is : chI 0 L2 = 11 ∧ decide (0 < L2.length) = true := by decide

set_option maxHeartbeats 2000000 in
theorem awake12_any (w : World) : Calls Try.prog 7 #[] w fun e w' => e = .returned (.bool true) ∧ Below w.heap.size w w' := by
  have HC := Lib.hid (And.intro l4_is l2_is)
  go_enter Try.func7, Try.ntmps7
  go_wp2_with fail
  refine (choose12_any 1 (some ⟨w.heap.size, 0, none⟩) 4 L4 _ (ke_block rfl (hp_new rfl)) (by decide) (by decide)).mono ?_
  rintro e w1 ⟨rfl, hb1⟩
  have B1 : Below w.heap.size w w1 := below_of (by go_grown) hb1
  have HB1 := Lib.hid B1
  have z1 := B1.size
  rw [HC.out.1.1, HC.out.1.2]
  clear hb1 B1
  go_wp2_with fail
  refine (choose12_any 0 (some ⟨w1.heap.size, 0, none⟩) 2 L2 _ (ke_block rfl (hp_new rfl)) (by decide) (by decide)).mono ?_
  rintro e w2 ⟨rfl, hb2⟩
  have B2 : Below w1.heap.size w1 w2 := below_of (by go_grown) hb2
  have HB2 := Lib.hid (HB1.out.trans (B2.mono z1))
  rw [HC.out.2.1, HC.out.2.2]
  clear hb2 B2
  go_wp2
  go_ret
  exact ⟨rfl, HB2.out⟩

/-- What a fresh row of entries is to those who read it. -/
theorem EntPost.rd {w w' : World} {l : List Ent} {e : Ending} (h : EntPost w l e w') : ∃ A c, e = .returned (.slice A l.length c) ∧ KE.Rd w' A l ∧ l.length ≤ c ∧ (A = none → l = [] ∧ c = 0) ∧ Below w.heap.size w w' := by
  obtain ⟨A, c, rfl, ho, hb⟩ := h
  obtain ⟨A', c', e, hle, hrd, -⟩ := KE.rd_own ho rfl
  simp only [Value.slice.injEq, true_and] at e
  obtain ⟨rfl, rfl⟩ := e
  exact ⟨A, c, rfl, hrd, hle, fun e => ⟨List.eq_nil_of_length_eq_zero (own_nil ho e).1, (own_nil ho e).2⟩, hb⟩
theorem IntPost.rd {w w' : World} {l : List Int} {e : Ending} (h : IntPost w l e w') : ∃ A c, e = .returned (.slice A l.length c) ∧ KI.Rd w' A l ∧ Below w.heap.size w w' := by
  obtain ⟨A, c, rfl, ho, hb⟩ := h
  obtain ⟨A', c', e, -, hrd, -⟩ := KI.rd_own ho rfl
  simp only [Value.slice.injEq, true_and] at e
  obtain ⟨rfl, rfl⟩ := e
  exact ⟨A, c, rfl, hrd, hb⟩

end Go.Proofs.Ytmmggalcebepeaa
