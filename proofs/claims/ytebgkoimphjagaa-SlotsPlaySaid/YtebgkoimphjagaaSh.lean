/-
  Ints of the document's answer for layer 9 is true of rows that hold the same numbers. Condition: they lie where the arguments say.
-/
import Derived.Test.YtebgkoimphjagaaSg
namespace Go.Proofs.Ytebgkoimphjagaa
open Go.RowKit
set_option maxRecDepth 100000

theorem KN_rd {w : World} {A : Option Addr} {l : List Nat} (h : KN.Rd w A l) {k : Nat} (hk : k < l.length) : ∃ g off, A = some ⟨g, off, none⟩ ∧ g < w.heap.size ∧ w.cell? ⟨g, off + k, none⟩ = some (.int .i64 (l[k] : Int)) := by
  obtain ⟨g, off, e, hg, hc⟩ := h (by rintro rfl; cases hk)
  refine ⟨g, off, e, hg, ?_⟩
  have := hc k hk 0 (by decide)
  rw [show off + k * KN.k + 0 = off + k from by simp [KN]] at this
  exact this
theorem NatsPost.rd {w' : World} {l : List Nat} {A : Option Addr} {c : Nat} {base : Nat} (h : w'.ownsRow base 3 1 (.slice A l.length c) l.length (KN.row l)) : KN.Rd w' A l ∧ ∀ a, A = some a → base ≤ a.block ∧ a.block < w'.heap.size := by
  obtain ⟨A', c', e, -, h1, h2⟩ := KN.rd_own h rfl
  simp only [Value.slice.injEq, true_and] at e
  obtain ⟨rfl, -⟩ := e
  exact ⟨h1, fun a ha => ⟨(h2 a ha).1, (h2 a ha).2.1⟩⟩

set_option maxHeartbeats 2000000 in
theorem ints9_any (l : List Nat) (A B : Option Addr) (ca cb : Nat) (w : World) (hA : KN.Rd w A l) (hB' : KN.Rd w B l) (hl : l.length ≤ 100000000) :
    Calls Try.prog 22 #[.slice A l.length ca, .slice B l.length cb] w fun e w' => e = .returned (.bool true) ∧ Below w.heap.size w w' := by
  have HA := Lib.hid hA
  have HB := Lib.hid hB'
  clear hA hB'
  go_enter Try.func22, Try.ntmps22
  go_wp2_with fail
  go_loopw [5] (fun i wr => ∃ k : Nat, k ≤ l.length ∧ i = .int .i64 k ∧ Below w.heap.size w wr) (fun i _ => l.length - (RowKit.intOf i).toNat)
  case atStart => exact ⟨0, Nat.zero_le _, rfl, Below.refl _ _⟩
  case round =>
    obtain ⟨k, hk, rfl, hB⟩ := hrel
    by_cases hlt : k < l.length
    · have hlt' : (k : Int) < (l.length : Int) := by omega
      have hk9 : (k : Int) + 1 ≤ 1000000000 := by omega
      obtain ⟨g, off, rfl, hg, a0⟩ := KN_rd HA.out hlt
      obtain ⟨g', off', rfl, hg', b0⟩ := KN_rd HB.out hlt
      generalize l[k] = r at a0 b0
      obtain ⟨W, rfl⟩ : ∃ W, W = wr := ⟨_, rfl⟩
      have hz := hB.size
      have A0 := fun x : Later W.heap.size W => (x.cell (p := ⟨g, off + k, none⟩) (by simp only; omega)).trans ((hB.cell (p := ⟨g, off + k, none⟩) hg).trans a0)
      have B0 := fun x : Later W.heap.size W => (x.cell (p := ⟨g', off' + k, none⟩) (by simp only; omega)).trans ((hB.cell (p := ⟨g', off' + k, none⟩) hg').trans b0)
      clear a0 b0
      go_wp2_with fail
      refine region_later W.heap.size (by kernel_rfl) (by kernel_rfl) ?_
      repeat (go_big_quiet_step (fail))
      refine wpQuiet_nil ?_
      intro x
      have hx : Below w.heap.size w x.at := hB.trans (x.below.mono hz)
      clear A0 B0
      generalize x.at = w2 at *
      clear x
      go_wp2_with fail
      refine ⟨⟨k + 1, by omega, by go_num, hx⟩, by simp [RowKit.intOf]; omega⟩
    · obtain rfl : k = l.length := by omega
      have hlt' : ¬ (l.length : Int) < (l.length : Int) := by omega
      go_wp2
      go_ret
      exact ⟨rfl, hB⟩
theorem used_le (s : Sl) (h : s.Ok) : s.used.length ≤ 1024 := by
  have := h.cnt
  have := h.pl
  have := h.most
  omega
theorem used_is {s : Sl} {j : Nat} (h : j < s.used.length) : (s.atN s.used[j]).is = true := by
  have := List.getElem_mem h
  unfold Sl.used Sl.usedK at this
  exact (List.mem_filter.1 this).2
theorem used_up {s : Sl} {i j : Nat} (hj : j < s.used.length) (hi : i < j) : s.used[i]'(by omega) < s.used[j] := by
  have h : s.used.Pairwise (· < ·) := List.Pairwise.filter _ List.pairwise_lt_range
  exact (List.pairwise_iff_getElem.1 h) i j _ hj hi
theorem swap_has (s : Sl) (i x : Int) (j : Int) : (s.swap i x).has j = s.has j := by
  have hpl : (s.swap i x).pl.length = s.pl.length := by unfold Sl.swap; split <;> simp [Sl.set]
  unfold Sl.has
  rw [hpl, swap_is]
theorem swap_at (s : Sl) (i x : Int) : (s.swap i x).at i = if s.has i = true then x else 0 := by
  unfold Sl.at
  rw [swap_has]
  split
  · rename_i h
    rw [swap_atN h, if_pos rfl]
  · rfl

end Go.Proofs.Ytebgkoimphjagaa
