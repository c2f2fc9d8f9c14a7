/-
  RibDump: for every input the call returns true, and each argument reads afterwards as it read before. No condition.
-/
import Derived.Test.YthdnpilkkegniaaRowP
import Derived.Test.YthdnpilkkegniaaE1
import Derived.Deep.Slices
import Derived.Test.YthdnpilkkegniaaD1
namespace Go.Proofs.Ythdnpilkkegniaa
set_option maxRecDepth 100000
open Go.ChangeShapes Go.WideShapes Go.ChangeAt Go.RowKit Go.Joins Go.Deep

theorem add_plain' (g off j : Nat) : (⟨g, off, none⟩ : Addr).add j = ⟨g, off + j, none⟩ := by unfold Addr.add; split <;> simp_all
def nilAc : Ac := ⟨false, nilP, 0⟩
def pf4 (p : Pf) : List Value := [.int .u64 (u p.a.hi), .int .u64 (u p.a.lo), .bool p.a.v6, .int .i64 p.n]
/-- Prefixes that lie in memory, as a slice says. -/
def RdP (w : World) (A : Option Addr) (ls : List Pf) : Prop :=
  ls ≠ [] → ∃ g off, A = some ⟨g, off, none⟩ ∧ g < w.heap.size ∧ ∀ i, (h : i < ls.length) → w.cell? ⟨g, off + i * 4, none⟩ = some (.int .u64 (u ls[i].a.hi)) ∧ w.cell? ⟨g, off + i * 4 + 1, none⟩ = some (.int .u64 (u ls[i].a.lo)) ∧ w.cell? ⟨g, off + i * 4 + 2, none⟩ = some (.bool ls[i].a.v6) ∧ w.cell? ⟨g, off + i * 4 + 3, none⟩ = some (.int .i64 ls[i].n)
theorem ac_cells {H : Type} {enc : TypeId × Value → H} {W : World} {base n : Nat} {spare : Nat → Bool} {held : Bool} {cs : List Value} {x : DataW H × List MemPlace}
    (hl : cs.length = 6) (h : DataW.trod enc Try.prog W base spare held n 38 cs = some x) : ∃ r : Ac, cs = ac6 r := by
  match cs, hl with
  | [c, c0, c1, c2, c3, c4], _ =>
  obtain ⟨y, y0, y1, n, hx, _, h, h0, h1⟩ := trod_struct3 Try.underlying38 h
  have k0 : Try.prog.cellsOf 27 = 4 := by kernel_rfl
  have k1 : Try.prog.cellsOf 3 = 1 := by kernel_rfl
  have k3 : Try.prog.cellsOf 4 = 1 := by kernel_rfl
  have g : DataW.trod enc Try.prog W base spare held n 4 [c] = some y := by simpa [k3] using h
  have g0 : DataW.trod enc Try.prog W base spare held n 27 [c0, c1, c2, c3] = some y0 := by simpa [k0, k3] using h0
  have g1 : DataW.trod enc Try.prog W base spare held n 3 [c4] = some y1 := by simpa [k0, k1, k3] using h1
  obtain ⟨y2, y3, n2, _, _, h2, h3⟩ := trod_struct2 Try.underlying27 g0
  have k4 : Try.prog.cellsOf 25 = 3 := by kernel_rfl
  have g2 : DataW.trod enc Try.prog W base spare held n2 25 [c0, c1, c2] = some y2 := by simpa [k4] using h2
  have g3 : DataW.trod enc Try.prog W base spare held n2 3 [c3] = some y3 := by simpa [k1] using h3
  obtain ⟨z0, z1, z2, m, hz, _, i0, i1, i2⟩ := trod_struct3 Try.underlying25 g2
  have k2 : Try.prog.cellsOf 23 = 1 := by kernel_rfl
  have j0 : DataW.trod enc Try.prog W base spare held m 23 [c0] = some z0 := by simpa [k2] using i0
  have j1 : DataW.trod enc Try.prog W base spare held m 23 [c1] = some z1 := by simpa [k2] using i1
  have j2 : DataW.trod enc Try.prog W base spare held m 4 [c2] = some z2 := by simpa [k3] using i2
  obtain ⟨x, e, _⟩ := DataW.trod_bool Try.underlying4 g
  obtain ⟨x0, e0, _, w0⟩ := DataW.trod_int Try.underlying23 j0
  obtain ⟨x1, e1, _, w1⟩ := DataW.trod_int Try.underlying23 j1
  obtain ⟨x2, e2, _⟩ := DataW.trod_bool Try.underlying4 j2
  obtain ⟨x3, e3, _, w3⟩ := DataW.trod_int Try.underlying3 g3
  obtain ⟨x4, e4, _, w4⟩ := DataW.trod_int Try.underlying3 g1
  obtain ⟨lo0, hi0⟩ := bounds_u64 w0
  obtain ⟨lo1, hi1⟩ := bounds_u64 w1
  obtain ⟨a0, rfl⟩ := u_of x0 lo0 (by omega)
  obtain ⟨a1, rfl⟩ := u_of x1 lo1 (by omega)
  simp at e e0 e1 e2 e3 e4
  subst e e0 e1 e2 e3 e4
  exact ⟨⟨x, ⟨⟨a0, a1, x2⟩, x3⟩, x4⟩, rfl⟩
theorem open_acs {H : Type} {enc : TypeId × Value → H} {W : World} {base b0 : Nat} {spare : Nat → Bool} {held : Bool} {r : Reach} {v : Value} {d : DataW H} {p : List MemPlace}
    (hv : Value.okWide Try.prog W r b0 22 v) (h : DataW.Trod enc Try.prog W base spare held 22 v d p) (_ : ∀ b, spare b = true) :
    ∃ A c rs, v = .slice A (List.length rs) c ∧ RdA W A rs := by
  obtain ⟨A, len, cap, rfl⟩ := okWide_slice Try.underlying22 hv
  obtain ⟨fuel, hf⟩ := h
  have h5 : Try.prog.cellsOf 38 = 6 := by kernel_rfl
  rcases open_slice Try.underlying22 hf with ⟨hcs, _⟩ | ⟨a, l, c, m, n, D, Pl, hcs, _, hl, hm, hmm, _, hi⟩
  · simp [Value.cells] at hcs
    obtain ⟨rfl, rfl, rfl⟩ := hcs
    exact ⟨none, 0, [], rfl, fun h => absurd rfl h⟩
  · simp [Value.cells] at hcs
    obtain ⟨rfl, rfl, rfl⟩ := hcs
    have hlm : len ≤ m := by rw [hmm]; split <;> omega
    have key : ∀ i, i < len → ∃ r : Ac, ∀ j x, (ac6 r)[j]? = some x → W.cell? (a.add (i * 6 + j)) = some x := by
      intro i hlt
      obtain ⟨cs', hc, ht⟩ := hi i (by omega)
      rw [h5] at hc
      obtain ⟨_, hcl, hat⟩ := World.cells?_some hc
      obtain ⟨r, rfl⟩ := ac_cells hcl ht
      refine ⟨r, fun j x hx => ?_⟩
      have hj : j < 6 := by
        rcases Nat.lt_or_ge j 6 with h1 | h1
        · exact h1
        · rw [List.getElem?_eq_none (by simp [ac6]; omega)] at hx; cases hx
      rw [← Go.Deep.add_add, hat j hj, hx]
    have hch : ∃ f : Nat → Ac, ∀ i, i < len → ∀ j x, (ac6 (f i))[j]? = some x → W.cell? (a.add (i * 6 + j)) = some x :=
      ⟨fun i => if h : i < len then (key i h).choose else nilAc, fun i hlt j x hx => (key i hlt).choose_spec j x (by simpa [hlt] using hx)⟩
    obtain ⟨f, hf2⟩ := hch
    refine ⟨some a, cap, (List.range len).map f, by simp, fun hne => ?_⟩
    have hpos : 0 < len := by
      rcases Nat.eq_zero_or_pos len with h0 | h0
      · rw [h0] at hne; simp at hne
      · exact h0
    obtain ⟨g, off, spot⟩ := a
    have hspot : spot = none := by
      have := hf2 0 hpos 0 _ rfl
      rw [show 0 * 6 + 0 = 0 from rfl] at this
      simpa [Addr.add] using World.cell?_spot this
    subst hspot
    have hcell : ∀ i, i < len → ∀ j x, (ac6 (f i))[j]? = some x → W.cell? ⟨g, off + i * 6 + j, none⟩ = some x := fun i hlt j x hx => by
      have := hf2 i hlt j x hx
      rw [add_plain', ← Nat.add_assoc] at this
      exact this
    refine ⟨g, off, rfl, World.block_lt_of_cell? W ⟨g, off + 0 * 6 + 0, none⟩ (hcell 0 hpos 0 _ rfl), fun i hlt => ?_⟩
    have hlt' : i < len := by simpa using hlt
    have e : ((List.range len).map f)[i] = f i := by simp
    rw [e]
    exact ⟨hcell i hlt' 0 _ rfl, hcell i hlt' 1 _ rfl, hcell i hlt' 2 _ rfl, hcell i hlt' 3 _ rfl, hcell i hlt' 4 _ rfl, hcell i hlt' 5 _ rfl⟩
theorem pf_cells {H : Type} {enc : TypeId × Value → H} {W : World} {base n : Nat} {spare : Nat → Bool} {held : Bool} {cs : List Value} {x : DataW H × List MemPlace}
    (hl : cs.length = 4) (h : DataW.trod enc Try.prog W base spare held n 27 cs = some x) : ∃ r : Pf, cs = pf4 r := by
  match cs, hl with
  | [c0, c1, c2, c3], _ =>
  obtain ⟨y2, y3, n2, _, _, h2, h3⟩ := trod_struct2 Try.underlying27 h
  have k1 : Try.prog.cellsOf 3 = 1 := by kernel_rfl
  have k4 : Try.prog.cellsOf 25 = 3 := by kernel_rfl
  have g2 : DataW.trod enc Try.prog W base spare held n2 25 [c0, c1, c2] = some y2 := by simpa [k4] using h2
  have g3 : DataW.trod enc Try.prog W base spare held n2 3 [c3] = some y3 := by simpa [k1, k4] using h3
  obtain ⟨z0, z1, z2, m, hz, _, i0, i1, i2⟩ := trod_struct3 Try.underlying25 g2
  have k2 : Try.prog.cellsOf 23 = 1 := by kernel_rfl
  have k3 : Try.prog.cellsOf 4 = 1 := by kernel_rfl
  have j0 : DataW.trod enc Try.prog W base spare held m 23 [c0] = some z0 := by simpa [k2] using i0
  have j1 : DataW.trod enc Try.prog W base spare held m 23 [c1] = some z1 := by simpa [k2] using i1
  have j2 : DataW.trod enc Try.prog W base spare held m 4 [c2] = some z2 := by simpa [k3] using i2
  obtain ⟨x0, e0, _, w0⟩ := DataW.trod_int Try.underlying23 j0
  obtain ⟨x1, e1, _, w1⟩ := DataW.trod_int Try.underlying23 j1
  obtain ⟨x2, e2, _⟩ := DataW.trod_bool Try.underlying4 j2
  obtain ⟨x3, e3, _, w3⟩ := DataW.trod_int Try.underlying3 g3
  obtain ⟨lo0, hi0⟩ := bounds_u64 w0
  obtain ⟨lo1, hi1⟩ := bounds_u64 w1
  obtain ⟨a0, rfl⟩ := u_of x0 lo0 (by omega)
  obtain ⟨a1, rfl⟩ := u_of x1 lo1 (by omega)
  simp at e0 e1 e2 e3
  subst e0 e1 e2 e3
  exact ⟨⟨⟨a0, a1, x2⟩, x3⟩, rfl⟩
theorem open_pfs {H : Type} {enc : TypeId × Value → H} {W : World} {base b0 : Nat} {spare : Nat → Bool} {held : Bool} {r : Reach} {v : Value} {d : DataW H} {p : List MemPlace}
    (hv : Value.okWide Try.prog W r b0 181 v) (h : DataW.Trod enc Try.prog W base spare held 181 v d p) (_ : ∀ b, spare b = true) :
    ∃ A c rs, v = .slice A (List.length rs) c ∧ RdP W A rs := by
  obtain ⟨A, len, cap, rfl⟩ := okWide_slice Try.underlying181 hv
  obtain ⟨fuel, hf⟩ := h
  have h5 : Try.prog.cellsOf 27 = 4 := by kernel_rfl
  rcases open_slice Try.underlying181 hf with ⟨hcs, _⟩ | ⟨a, l, c, m, n, D, Pl, hcs, _, hl, hm, hmm, _, hi⟩
  · simp [Value.cells] at hcs
    obtain ⟨rfl, rfl, rfl⟩ := hcs
    exact ⟨none, 0, [], rfl, fun h => absurd rfl h⟩
  · simp [Value.cells] at hcs
    obtain ⟨rfl, rfl, rfl⟩ := hcs
    have hlm : len ≤ m := by rw [hmm]; split <;> omega
    have key : ∀ i, i < len → ∃ r : Pf, ∀ j x, (pf4 r)[j]? = some x → W.cell? (a.add (i * 4 + j)) = some x := by
      intro i hlt
      obtain ⟨cs', hc, ht⟩ := hi i (by omega)
      rw [h5] at hc
      obtain ⟨_, hcl, hat⟩ := World.cells?_some hc
      obtain ⟨r, rfl⟩ := pf_cells hcl ht
      refine ⟨r, fun j x hx => ?_⟩
      have hj : j < 4 := by
        rcases Nat.lt_or_ge j 4 with h1 | h1
        · exact h1
        · rw [List.getElem?_eq_none (by simp [pf4]; omega)] at hx; cases hx
      rw [← Go.Deep.add_add, hat j hj, hx]
    have hch : ∃ f : Nat → Pf, ∀ i, i < len → ∀ j x, (pf4 (f i))[j]? = some x → W.cell? (a.add (i * 4 + j)) = some x :=
      ⟨fun i => if h : i < len then (key i h).choose else nilP, fun i hlt j x hx => (key i hlt).choose_spec j x (by simpa [hlt] using hx)⟩
    obtain ⟨f, hf2⟩ := hch
    refine ⟨some a, cap, (List.range len).map f, by simp, fun hne => ?_⟩
    have hpos : 0 < len := by
      rcases Nat.eq_zero_or_pos len with h0 | h0
      · rw [h0] at hne; simp at hne
      · exact h0
    obtain ⟨g, off, spot⟩ := a
    have hspot : spot = none := by
      have := hf2 0 hpos 0 _ rfl
      rw [show 0 * 4 + 0 = 0 from rfl] at this
      simpa [Addr.add] using World.cell?_spot this
    subst hspot
    have hcell : ∀ i, i < len → ∀ j x, (pf4 (f i))[j]? = some x → W.cell? ⟨g, off + i * 4 + j, none⟩ = some x := fun i hlt j x hx => by
      have := hf2 i hlt j x hx
      rw [add_plain', ← Nat.add_assoc] at this
      exact this
    refine ⟨g, off, rfl, World.block_lt_of_cell? W ⟨g, off + 0 * 4 + 0, none⟩ (hcell 0 hpos 0 _ rfl), fun i hlt => ?_⟩
    have hlt' : i < len := by simpa using hlt
    have e : ((List.range len).map f)[i] = f i := by simp
    rw [e]
    exact ⟨hcell i hlt' 0 _ rfl, hcell i hlt' 1 _ rfl, hcell i hlt' 2 _ rfl, hcell i hlt' 3 _ rfl⟩

end Go.Proofs.Ythdnpilkkegniaa

namespace Go.Proofs.Ythdnpilkkegniaa
set_option maxRecDepth 100000
open Go.ChangeShapes Go.WideShapes Go.ChangeAt Go.RowKit Go.Joins Go.Deep

theorem ac_cells6 {H : Type} {enc : TypeId × Value → H} {W : World} {base n : Nat} {spare : Nat → Bool} {held : Bool} {cs : List Value} {x : DataW H × List MemPlace}
    (hl : cs.length = 6) (h : DataW.trod enc Try.prog W base spare held n 53 cs = some x) : ∃ r : Ac, cs = ac6 r := by
  match cs, hl with
  | [c, c0, c1, c2, c3, c4], _ =>
  obtain ⟨y, y0, y1, n, hx, _, h, h0, h1⟩ := trod_struct3 Try.underlying53 h
  have k0 : Try.prog.cellsOf 27 = 4 := by kernel_rfl
  have k1 : Try.prog.cellsOf 3 = 1 := by kernel_rfl
  have k3 : Try.prog.cellsOf 4 = 1 := by kernel_rfl
  have g : DataW.trod enc Try.prog W base spare held n 4 [c] = some y := by simpa [k3] using h
  have g0 : DataW.trod enc Try.prog W base spare held n 27 [c0, c1, c2, c3] = some y0 := by simpa [k0, k3] using h0
  have g1 : DataW.trod enc Try.prog W base spare held n 3 [c4] = some y1 := by simpa [k0, k1, k3] using h1
  obtain ⟨y2, y3, n2, _, _, h2, h3⟩ := trod_struct2 Try.underlying27 g0
  have k4 : Try.prog.cellsOf 25 = 3 := by kernel_rfl
  have g2 : DataW.trod enc Try.prog W base spare held n2 25 [c0, c1, c2] = some y2 := by simpa [k4] using h2
  have g3 : DataW.trod enc Try.prog W base spare held n2 3 [c3] = some y3 := by simpa [k1] using h3
  obtain ⟨z0, z1, z2, m, hz, _, i0, i1, i2⟩ := trod_struct3 Try.underlying25 g2
  have k2 : Try.prog.cellsOf 23 = 1 := by kernel_rfl
  have j0 : DataW.trod enc Try.prog W base spare held m 23 [c0] = some z0 := by simpa [k2] using i0
  have j1 : DataW.trod enc Try.prog W base spare held m 23 [c1] = some z1 := by simpa [k2] using i1
  have j2 : DataW.trod enc Try.prog W base spare held m 4 [c2] = some z2 := by simpa [k3] using i2
  obtain ⟨x, e, _⟩ := DataW.trod_bool Try.underlying4 g
  obtain ⟨x0, e0, _, w0⟩ := DataW.trod_int Try.underlying23 j0
  obtain ⟨x1, e1, _, w1⟩ := DataW.trod_int Try.underlying23 j1
  obtain ⟨x2, e2, _⟩ := DataW.trod_bool Try.underlying4 j2
  obtain ⟨x3, e3, _, w3⟩ := DataW.trod_int Try.underlying3 g3
  obtain ⟨x4, e4, _, w4⟩ := DataW.trod_int Try.underlying3 g1
  obtain ⟨lo0, hi0⟩ := bounds_u64 w0
  obtain ⟨lo1, hi1⟩ := bounds_u64 w1
  obtain ⟨a0, rfl⟩ := u_of x0 lo0 (by omega)
  obtain ⟨a1, rfl⟩ := u_of x1 lo1 (by omega)
  simp at e e0 e1 e2 e3 e4
  subst e e0 e1 e2 e3 e4
  exact ⟨⟨x, ⟨⟨a0, a1, x2⟩, x3⟩, x4⟩, rfl⟩
theorem open_acs6 {H : Type} {enc : TypeId × Value → H} {W : World} {base b0 : Nat} {spare : Nat → Bool} {held : Bool} {r : Reach} {v : Value} {d : DataW H} {p : List MemPlace}
    (hv : Value.okWide Try.prog W r b0 47 v) (h : DataW.Trod enc Try.prog W base spare held 47 v d p) (_ : ∀ b, spare b = true) :
    ∃ A c rs, v = .slice A (List.length rs) c ∧ RdA W A rs := by
  obtain ⟨A, len, cap, rfl⟩ := okWide_slice Try.underlying47 hv
  obtain ⟨fuel, hf⟩ := h
  have h5 : Try.prog.cellsOf 53 = 6 := by kernel_rfl
  rcases open_slice Try.underlying47 hf with ⟨hcs, _⟩ | ⟨a, l, c, m, n, D, Pl, hcs, _, hl, hm, hmm, _, hi⟩
  · simp [Value.cells] at hcs
    obtain ⟨rfl, rfl, rfl⟩ := hcs
    exact ⟨none, 0, [], rfl, fun h => absurd rfl h⟩
  · simp [Value.cells] at hcs
    obtain ⟨rfl, rfl, rfl⟩ := hcs
    have hlm : len ≤ m := by rw [hmm]; split <;> omega
    have key : ∀ i, i < len → ∃ r : Ac, ∀ j x, (ac6 r)[j]? = some x → W.cell? (a.add (i * 6 + j)) = some x := by
      intro i hlt
      obtain ⟨cs', hc, ht⟩ := hi i (by omega)
      rw [h5] at hc
      obtain ⟨_, hcl, hat⟩ := World.cells?_some hc
      obtain ⟨r, rfl⟩ := ac_cells6 hcl ht
      refine ⟨r, fun j x hx => ?_⟩
      have hj : j < 6 := by
        rcases Nat.lt_or_ge j 6 with h1 | h1
        · exact h1
        · rw [List.getElem?_eq_none (by simp [ac6]; omega)] at hx; cases hx
      rw [← Go.Deep.add_add, hat j hj, hx]
    have hch : ∃ f : Nat → Ac, ∀ i, i < len → ∀ j x, (ac6 (f i))[j]? = some x → W.cell? (a.add (i * 6 + j)) = some x :=
      ⟨fun i => if h : i < len then (key i h).choose else nilAc, fun i hlt j x hx => (key i hlt).choose_spec j x (by simpa [hlt] using hx)⟩
    obtain ⟨f, hf2⟩ := hch
    refine ⟨some a, cap, (List.range len).map f, by simp, fun hne => ?_⟩
    have hpos : 0 < len := by
      rcases Nat.eq_zero_or_pos len with h0 | h0
      · rw [h0] at hne; simp at hne
      · exact h0
    obtain ⟨g, off, spot⟩ := a
    have hspot : spot = none := by
      have := hf2 0 hpos 0 _ rfl
      rw [show 0 * 6 + 0 = 0 from rfl] at this
      simpa [Addr.add] using World.cell?_spot this
    subst hspot
    have hcell : ∀ i, i < len → ∀ j x, (ac6 (f i))[j]? = some x → W.cell? ⟨g, off + i * 6 + j, none⟩ = some x := fun i hlt j x hx => by
      have := hf2 i hlt j x hx
      rw [add_plain', ← Nat.add_assoc] at this
      exact this
    refine ⟨g, off, rfl, World.block_lt_of_cell? W ⟨g, off + 0 * 6 + 0, none⟩ (hcell 0 hpos 0 _ rfl), fun i hlt => ?_⟩
    have hlt' : i < len := by simpa using hlt
    have e : ((List.range len).map f)[i] = f i := by simp
    rw [e]
    exact ⟨hcell i hlt' 0 _ rfl, hcell i hlt' 1 _ rfl, hcell i hlt' 2 _ rfl, hcell i hlt' 3 _ rfl, hcell i hlt' 4 _ rfl, hcell i hlt' 5 _ rfl⟩

end Go.Proofs.Ythdnpilkkegniaa

namespace Go.Proofs.Ythdnpilkkegniaa
open Go.RowKit Go.Maps
set_option maxRecDepth 100000

set_option maxHeartbeats 8000000 in
theorem ribdump_law (n h : Int) (A : Option Addr) (cap : Nat) (ls : List Ac) (w : World) (hr : RdA w A ls) :
    Calls Try.prog 4 #[.int .i64 n, .int .i64 h, .slice A ls.length cap] w fun e w' => e = .returned (.bool true) ∧ Below w.heap.size w w' := by
  have HRD := Lib.hid hr
  clear hr
  by_cases hlen : 60 < ls.length
  · have t0 : decide ((60 : Int) < (ls.length : Int)) = true := by simp; omega
    go_enter Try.func4, Try.ntmps4
    go_wp2_with fail
    refine (awake6_any _).mono ?_
    rintro e w1 ⟨rfl, hw1⟩
    have b1 : Below w.heap.size w w1 := below_of (by go_grown) hw1
    go_wp2
    go_ret
    exact ⟨rfl, b1⟩
  · have t0 : decide ((60 : Int) < (ls.length : Int)) = false := by simp; omega
    have cN := fun W => rib_new n h W
    unfold RNewPost at cN
    obtain ⟨B1, hB1⟩ : ∃ B, clampN n = B := ⟨_, rfl⟩
    obtain ⟨B2, hB2⟩ : ∃ B, clampH h = B := ⟨_, rfl⟩
    rw [hB1, hB2] at cN
    have CN := Lib.hid cN
    clear cN hB1 hB2
    go_enter Try.func4, Try.ntmps4
    go_wp2_with fail
    refine (awake6_any _).mono ?_
    rintro e w1 ⟨rfl, hw1⟩
    have b1 : Below w.heap.size w w1 := below_of (by go_grown) hw1
    clear hw1
    go_wp2_with fail
    refine (CN.out _).mono ?_
    rintro e w3 ⟨r, S3, rfl, hT3, hb3, hS3⟩
    have b3 : Below w.heap.size w w3 := b1.trans (hb3.mono b1.size)
    have n3 : ∀ b, S3 b → w.heap.size ≤ b := fun b hb => by have := hS3 b hb; have := b1.size; omega
    have HR3 := Lib.hid hT3
    have HN3 := Lib.hid n3
    have B3 := Lib.hid b3
    clear hT3 n3 hS3 hb3 b1 CN b3
    go_wp2_with fail
    go_loopw [9, 10] (fun v i wr => RDumpRel w r B1 B2 ls v i wr) (fun _ i _ => ls.length - (RowKit.intOf i).toNat)
    case atStart => exact ⟨0, S3, [], none, 0, rfl, Nat.zero_le _, rfl, HR3.out, Nat.le_refl _, HN3.out, B3.out, World.ownsRow_nil _ _ _ _, (fun b _ e => by simp [Value.ownBlock] at e), List.Perm.refl _⟩
    case round =>
      obtain ⟨k, S, T, A9, c9, rfl, hk, rfl, hR, hm, hN, hB, ho, hap, hper⟩ := hrel
      have HR6 := Lib.hid hR
      have HN := Lib.hid hN
      have HO := Lib.hid ho
      have HAP := Lib.hid hap
      have HPER := Lib.hid hper
      have hz := hB.size
      have hTl : T.length ≤ 4096 := by
        rw [hper.length_eq]
        have := hR.inv.few
        have := hR.inv.n0
        omega
      clear hR hN ho hap hper HR3 HN3
      have HR := HRD
      by_cases hlt : k < ls.length
      · obtain ⟨g, off, rfl, hg, hc⟩ := HR.out (by intro e; rw [e] at hlt; cases hlt)
        obtain ⟨c0, c1, c2, c3, c4, c5⟩ := hc k hlt
        have d0 := (hB.cell (p := ⟨g, off + k * 6, none⟩) hg).trans c0
        have d1 := (hB.cell (p := ⟨g, off + k * 6 + 1, none⟩) hg).trans c1
        have d2 := (hB.cell (p := ⟨g, off + k * 6 + 2, none⟩) hg).trans c2
        have d3 := (hB.cell (p := ⟨g, off + k * 6 + 3, none⟩) hg).trans c3
        have d4 := (hB.cell (p := ⟨g, off + k * 6 + 4, none⟩) hg).trans c4
        have d5 := (hB.cell (p := ⟨g, off + k * 6 + 5, none⟩) hg).trans c5
        clear c0 c1 c2 c3 c4 c5 hc
        obtain ⟨xc, hxc⟩ : ∃ xc, ls[k] = xc := ⟨_, rfl⟩
        rw [hxc] at d0 d1 d2 d3 d4 d5
        have HXX := Lib.hid hxc
        clear hxc
        go_wp2_with fail
        refine (rdo_any HR6.out (by omega) xc).mono ?_
        rintro e w6 ⟨⟨rfl, S6, g1, g2, g3⟩, g4⟩
        rw [← HXX.out] at g1 g4
        obtain ⟨r1, r2, r3, r4, r5, r6⟩ := rplay_next hlt HN.out hz (Nat.le_refl _) hB g1 g2 g3 g4 hm
        have HS6 := Lib.hid HR6.out.srt
        have hgx : g < w6.heap.size := Nat.lt_of_lt_of_le hg (Nat.le_trans hz g2.size)
        have d0' := (r6.cell (p := ⟨g, off + k * 6, none⟩) hg).trans d0
        have d1' := (r6.cell (p := ⟨g, off + k * 6 + 1, none⟩) hg).trans d1
        have d2' := (r6.cell (p := ⟨g, off + k * 6 + 2, none⟩) hg).trans d2
        have d3' := (r6.cell (p := ⟨g, off + k * 6 + 3, none⟩) hg).trans d3
        have d4' := (r6.cell (p := ⟨g, off + k * 6 + 4, none⟩) hg).trans d4
        have d5' := (r6.cell (p := ⟨g, off + k * 6 + 5, none⟩) hg).trans d5
        have ho6 := own_block HO.out (fun b hb hl => g2.block b hl (fun hS => HAP.out b hS hb))
        have HO6 := Lib.hid ho6
        have hap6 : ∀ b, S6 b → (Value.slice A9 T.length c9).ownBlock ≠ some b := fun b hb e => by
          rcases g3 b hb with q | q
          · exact HAP.out b q e
          · have := (HO.out.lt b e).2
            omega
        have HAP6 := Lib.hid hap6
        have hsuc := rplayK_succ B1 B2 ls k hlt
        have hsuc1 : (rplayK B1 B2 ls (k + 1)).1 = rdoQ B1 B2 xc (rplayK B1 B2 ls k).1 := by rw [hsuc, ← HXX.out]
        have hperS : rdoE B1 B2 xc (rplayK B1 B2 ls k).1 = 0 → (lastS xc T).Perm (rplayK B1 B2 ls (k + 1)).1 := fun he => by rw [hsuc1]; exact last_step HS6.out HPER.out he
        have hperN : rdoE B1 B2 xc (rplayK B1 B2 ls k).1 ≠ 0 → T.Perm (rplayK B1 B2 ls (k + 1)).1 := fun he => by rw [hsuc1, last_stay he]; exact HPER.out
        generalize rdoE B1 B2 xc (rplayK B1 B2 ls k).1 = E at hperS hperN ⊢
        have R1 := Lib.hid r1
        have R3 := Lib.hid r3
        have R4 := Lib.hid r4
        have PS := Lib.hid hperS
        have PN := Lib.hid hperN
        clear g1 g2 g3 g4 r1 r3 r4 r6 ho6 hap6 hsuc hsuc1 hperS hperN d0 d1 d2 d3 d4 d5 HR6 HN HO HAP HPER HS6 HR
        by_cases he : E = 0
        · have te : (E != 0) = false := by rw [bne_eq_false_iff_eq]; exact he
          have PS2 := Lib.hid (PS.out he)
          clear PN PS he
          go_wp2_with fail
          clear te
          go_loopw [12, 13] (fun v j wr => ∃ (q : Nat) (Ak : Option Addr) (ck N : Nat), v = .slice Ak N ck ∧ N = (keepJ xc T q).length ∧ q ≤ T.length ∧ j = .int .i64 q ∧ Hid (wr.ownsRow w6.heap.size 55 5 (.slice Ak N ck) N (prv (keepJ xc T q))) ∧ Below w6.heap.size w6 wr) (fun _ j _ => T.length - (RowKit.intOf j).toNat)
          case atStart => exact ⟨0, none, 0, 0, rfl, rfl, Nat.zero_le _, rfl, Lib.hid (World.ownsRow_nil _ _ _ _), Below.refl _ _⟩
          case round =>
            obtain ⟨q, Ak, ck, N, rfl, hN2, hq, rfl, hok, hB2⟩ := hrel
            have hNle : N ≤ 5000 := by have := keepJ_len xc T q; omega
            have HN2 := Lib.hid hN2
            clear hN2
            have hz2 := hB2.size
            have e0 := (hB2.cell (p := ⟨g, off + k * 6, none⟩) hgx).trans d0'
            have e1 := (hB2.cell (p := ⟨g, off + k * 6 + 1, none⟩) hgx).trans d1'
            have e2 := (hB2.cell (p := ⟨g, off + k * 6 + 2, none⟩) hgx).trans d2'
            have e3 := (hB2.cell (p := ⟨g, off + k * 6 + 3, none⟩) hgx).trans d3'
            have e4 := (hB2.cell (p := ⟨g, off + k * 6 + 4, none⟩) hgx).trans d4'
            have e5 := (hB2.cell (p := ⟨g, off + k * 6 + 5, none⟩) hgx).trans d5'
            obtain ⟨W, rfl⟩ : ∃ W, W = wr := ⟨_, rfl⟩
            have hgW : g < W.heap.size := Nat.lt_of_lt_of_le hgx hz2
            by_cases hql : q < T.length
            · obtain ⟨gT, hgA, hF⟩ := five_at (own_fresh HO6.out hB2) rfl hql
              subst hgA
              have hsu := keepJ_succ xc T hql
              obtain ⟨y, hy⟩ : ∃ y, T[q] = y := ⟨_, rfl⟩
              rw [hy] at hF hsu
              have HSU := Lib.hid hsu
              have j1 : (q : Int) < (T.length : Int) := by omega
              have j0 : (0 : Int) ≤ (q : Int) := by omega
              have hpq := pfEq_iff y.p xc.p
              unfold pfEq at hpq
              have HF := Lib.hid hF
              obtain ⟨m0, m1, m2, m3, m4, zm⟩ := hF
              clear hy hsu
              have Lm0 := fun x : Later W.heap.size W => (x.cell (p := ⟨gT, q * 5, none⟩) zm).trans m0
              have Lm1 := fun x : Later W.heap.size W => (x.cell (p := ⟨gT, q * 5 + 1, none⟩) zm).trans m1
              have Lm2 := fun x : Later W.heap.size W => (x.cell (p := ⟨gT, q * 5 + 2, none⟩) zm).trans m2
              have Lm3 := fun x : Later W.heap.size W => (x.cell (p := ⟨gT, q * 5 + 3, none⟩) zm).trans m3
              have Le1 := fun x : Later W.heap.size W => (x.cell (p := ⟨g, off + k * 6 + 1, none⟩) hgW).trans e1
              have Le2 := fun x : Later W.heap.size W => (x.cell (p := ⟨g, off + k * 6 + 2, none⟩) hgW).trans e2
              have Le3 := fun x : Later W.heap.size W => (x.cell (p := ⟨g, off + k * 6 + 3, none⟩) hgW).trans e3
              have Le4 := fun x : Later W.heap.size W => (x.cell (p := ⟨g, off + k * 6 + 4, none⟩) hgW).trans e4
              clear e0 e1 e2 e3 e4 e5 m0 m1 m2 m3 m4
              go_wp2_with fail
              refine region_later W.heap.size (by kernel_rfl) (by kernel_rfl) ?_
              repeat (go_big_quiet_step (fail))
              refine wpQuiet_nil ?_
              intro x
              have hx := x.below
              generalize x.at = V at hx ⊢
              clear x Lm0 Lm1 Lm2 Lm3 Le1 Le2 Le3 Le4
              have bV := hB2.trans (hx.mono hz2)
              have HOV := Lib.hid (own_fresh hok.out hx)
              obtain ⟨m0, m1, m2, m3, m4, zm⟩ := HF.out.keep hx
              have zV := bV.size
              clear hx hok hB2 hz2 HF
              obtain ⟨pq, hpqq⟩ : ∃ pq, pfB (u y.p.a.hi) (u y.p.a.lo) y.p.a.v6 y.p.n (u xc.p.a.hi) (u xc.p.a.lo) xc.p.a.v6 xc.p.n = pq := ⟨_, rfl⟩
              rw [hpqq] at hpq ⊢
              clear hpqq
              cases pq
              rotate_left
              · have e := hpq.1 rfl
                have HTS' : Hid (keepJ xc T (q + 1) = keepJ xc T q) := by rw [HSU.out, if_neg (by simpa using e)]; exact Lib.hid (List.append_nil _)
                clear hpq e HSU m0 m1 m2 m3 m4 j1 j0
                go_wp2
                go_roundw
                case rel => exact ⟨q + 1, Ak, ck, N, rfl, by rw [HTS'.out]; exact HN2.out, by omega, by go_num, by rw [HTS'.out]; exact HOV, bV⟩
                case measure => simp [RowKit.intOf]; omega
              · have e : ¬ y.p = xc.p := fun e => by have := hpq.2 e; cases this
                have HTS' : Hid (keepJ xc T (q + 1) = keepJ xc T q ++ [y]) := by rw [HSU.out, if_pos e]; exact Lib.hid rfl
                clear hpq e HSU
                go_wp2_with (
                  at_builtin
                  refine wpList_five1g five_route rfl (.tmp 64) (.tmp 69) rfl w6.heap.size _ N (keepJ xc T q) (by rfl) (HOV.out.alloc _) V.heap.size y (by rfl) (heap_alloc_new V _) (by omega) (by simp; omega) ?_
                  intro g7 c7 w7 ho7 hg7 hat7
                  have b7 : Below w6.heap.size w6 w7 := (bV.alloc (by omega) _).trans ((Below.refl w6.heap.size _).grown hg7 (by simp; omega) (fun b hb => own_ge HOV.out b hb))
                  have HO7 := Lib.hid ho7
                  clear ho7 hg7 hat7 m0 m1 m2 m3 m4 j1 j0)
                go_roundw
                case rel => exact ⟨q + 1, some ⟨g7, 0, none⟩, c7, N + 1, rfl, by rw [HTS'.out, List.length_append, ← HN2.out]; rfl, by omega, by go_num, by rw [HTS'.out]; exact HO7, b7⟩
                case measure => simp [RowKit.intOf]; omega
            · obtain rfl : q = T.length := by omega
              have hql' : ¬ (T.length : Int) < (T.length : Int) := by omega
              rw [keepJ_all] at hok HN2
              have hrow : lastS xc T = T.filter (fun y => decide (y.p ≠ xc.p)) ++ (if xc.out = true then [] else [⟨xc.p, xc.v⟩]) := rfl
              have hb9 := R4.out.trans (hB2.mono (by have := R4.out.size; omega))
              have hR9 := R1.out.keep hB2
              have hS9 : ∀ b, S6 b → b < w6.heap.size := fun b hb => R1.out.lt b hb
              generalize T.filter (fun y => decide (y.p ≠ xc.p)) = F at hok HN2 hrow
              have HR9 := Lib.hid hR9
              have HB9 := Lib.hid hb9
              have HS9 := Lib.hid hS9
              have HRW := Lib.hid hrow
              clear hR9 hb9 hS9 hrow hql hq
              go_upto_region 17 with fail
              clear hql'
              cases hxo : xc.out
              · rw [hxo] at e0
                have hrw := HRW.out
                rw [hxo] at hrw
                simp only [Bool.false_eq_true, if_false] at hrw
                have HRX := Lib.hid hrw
                clear hrw HRW hxo
                go_upto_region 18 with fail
                have Le1 := fun x : Later W.heap.size W => (x.cell (p := ⟨g, off + k * 6 + 1, none⟩) hgW).trans e1
                have Le2 := fun x : Later W.heap.size W => (x.cell (p := ⟨g, off + k * 6 + 2, none⟩) hgW).trans e2
                have Le3 := fun x : Later W.heap.size W => (x.cell (p := ⟨g, off + k * 6 + 3, none⟩) hgW).trans e3
                have Le4 := fun x : Later W.heap.size W => (x.cell (p := ⟨g, off + k * 6 + 4, none⟩) hgW).trans e4
                have Le5 := fun x : Later W.heap.size W => (x.cell (p := ⟨g, off + k * 6 + 5, none⟩) hgW).trans e5
                refine region_tail1 12 W.heap.size (.slice Ak N ck) (by kernel_rfl) (by kernel_rfl) (.inl ⟨rfl, fun _ => by simp [go_sem]⟩) (fun _ _ _ h => h) ?_
                simp only [Nat.reduceSub, List.take_succ_cons, List.take_zero, List.drop_succ_cons, List.drop_zero, Act.put, List.setIfInBounds_toArray, List.set_cons_succ, List.set_cons_zero]
                repeat (go_big_quiet_step (fail))
                refine wpQuiet_nil ?_
                intro x
                have hx := x.below
                clear Le1 Le2 Le3 Le4 Le5 e0 e1 e2 e3 e4 e5
                generalize x.at = V at hx ⊢
                clear x
                have bV := hB2.trans (hx.mono hz2)
                have HOV := Lib.hid (own_fresh hok.out hx)
                have zV := bV.size
                go_wp2_with (
                  at_builtin
                  refine wpList_five1g five_route rfl (.tmp 77) (.tmp 89) rfl w6.heap.size _ N F (by rfl) (HOV.out.alloc _) V.heap.size ⟨xc.p, xc.v⟩ (by rfl) (heap_alloc_new V _) (by omega) (by simp; omega) ?_
                  intro g7 c7 w7 ho7 hg7 hat7
                  have b7 : Below w6.heap.size w6 w7 := (bV.alloc (by omega) _).trans ((Below.refl w6.heap.size _).grown hg7 (by simp; omega) (fun b hb => own_ge HOV.out b hb))
                  have HO7 := Lib.hid ho7
                  clear ho7 hg7 hat7)
                go_roundw
                case rel =>
                  have hlen : (lastS xc T).length = N + 1 := by rw [HRX.out, List.length_append, ← HN2.out]; rfl
                  refine ⟨k + 1, S6, lastS xc T, some ⟨g7, 0, none⟩, c7, by rw [hlen], by omega, by go_num, R1.out.keep b7, r2, R3.out, R4.out.trans (b7.mono R4.out.size), ?_, fun b hb e => ?_, PS2.out⟩
                  · rw [hlen, HRX.out]
                    exact own_base HO7.out R4.out.size
                  · have h1 := HS9.out b hb
                    rw [hlen] at e
                    have h2 := own_ge HO7.out b e
                    omega
                case measure => simp [RowKit.intOf]; omega
              · rw [hxo] at e0
                have hrw := HRW.out
                rw [hxo] at hrw
                simp only [if_true, List.append_nil] at hrw
                have HRX := Lib.hid hrw
                clear hrw HRW hxo
                go_wp2
                go_roundw
                case rel =>
                  have hlen : (lastS xc T).length = N := by rw [HRX.out, ← HN2.out]
                  refine ⟨k + 1, S6, lastS xc T, Ak, ck, by rw [hlen], by omega, by go_num, HR9.out, r2, R3.out, HB9.out, ?_, fun b hb e => ?_, PS2.out⟩
                  · rw [hlen, HRX.out]
                    exact own_base hok.out R4.out.size
                  · have h1 := HS9.out b hb
                    rw [hlen] at e
                    have h2 := own_ge hok.out b e
                    omega
                case measure => simp [RowKit.intOf]; omega
        · have te : (E != 0) = true := by rw [bne_iff_ne]; exact he
          have PN2 := Lib.hid (PN.out he)
          clear PN PS he
          go_wp2
          go_roundw
          case rel => exact ⟨k + 1, S6, T, A9, c9, rfl, by omega, by go_num, R1.out, r2, R3.out, R4.out, HO6.out, HAP6.out, PN2.out⟩
          case measure => simp [RowKit.intOf]; omega
      · have t1 : decide (k < ls.length) = false := by simp; omega
        have hM : (rplayK B1 B2 ls k).2 ≤ 20000 := by omega
        have hPE := HPER.out
        generalize (rplayK B1 B2 ls k).1 = L at HR6 hPE
        generalize (rplayK B1 B2 ls k).2 = M at HR6 hM
        have hs := HR6.out.srt
        have hI := HR6.out.inv
        have hll : L.length ≤ 4096 := by have := hI.few; have := hI.n0; omega
        have hTL := hPE.length_eq
        have hgd := good_all hs hI
        have hmem : ∀ y ∈ L, y ∈ T := fun y hy => hPE.mem_iff.2 hy
        have HSS := Lib.hid hs
        have HGD := Lib.hid hgd
        have HMEM := Lib.hid hmem
        have hhl := hop_len L
        have HHL := Lib.hid hhl
        have HTL := Lib.hid hTL
        have B0 := Lib.hid hB
        have hT9 : T.length ≤ 4096 := by omega
        clear hPE hTL HPER hs hI hgd hmem hhl HAP HN HR HRD t0 hTl hlt hlen hm hB
        go_wp2_with fail
        refine (rib_dump HR6.out).mono ?_
        rintro e w4 ⟨v4, rfl, ho4, hw4⟩
        obtain ⟨A4, c4, rfl, -⟩ := own_val ho4
        have HR4 := Lib.hid (HR6.out.keep hw4)
        have HO4 := Lib.hid (own_fresh HO.out hw4)
        have HD4 := Lib.hid ho4
        have B4 := Lib.hid (B0.out.trans (hw4.mono hz))
        clear ho4 hw4 HR6 HO B0 t1
        go_wp2_with fail
        refine (rib_hops HR4.out).mono ?_
        rintro e w5 ⟨v5, rfl, ho5, hw5⟩
        obtain ⟨A5, c5, rfl, -⟩ := own_val ho5
        have HR5 := Lib.hid (HR4.out.keep hw5)
        have HO5 := Lib.hid (own_fresh HO4.out hw5)
        have HD5 := Lib.hid (own_fresh HD4.out hw5)
        have HH5 := Lib.hid ho5
        have B5 := Lib.hid (B4.out.trans (hw5.mono B4.out.size))
        clear ho5 hw5 HR4 HO4 HD4 B4
        go_wp2_with fail
        refine (rib_size HR5.out).mono ?_
        rintro e w6 ⟨rfl, hw6⟩
        have HO6 := Lib.hid (own_fresh HO5.out hw6)
        have HD6 := Lib.hid (own_fresh HD5.out hw6)
        have HH6 := Lib.hid (own_fresh HH5.out hw6)
        have B6 := Lib.hid (B5.out.trans (hw6.mono B5.out.size))
        clear hw6 HR5 HO5 HD5 HH5 B5
        have f1 : ((L.length : Int) != (T.length : Int)) = false := by rw [bne_eq_false_iff_eq, HTL.out]
        obtain ⟨H, hH⟩ : ∃ H, hopS L = H := ⟨_, rfl⟩
        have hhm : ∀ y ∈ L, y.v ∈ H := fun y hy => by rw [← hH]; exact hop_mem hy
        have hri : ∀ q, (hq : q + 1 < H.length) → H[q] < H[q + 1] := by
          subst hH
          exact fun q hq => hop_rise L hq
        have HHM := Lib.hid hhm
        have HRI := Lib.hid hri
        have hHl : H.length ≤ L.length := by rw [← hH]; exact HHL.out
        rw [hH] at HH6 ⊢
        have hH9 : H.length ≤ 4096 := by omega
        have HHH := Lib.hid hHl
        clear hhm hri hH hHl HHL
        go_wp2_with fail
        clear f1
        go_loopw [19] (fun i wr => ∃ i' : Nat, i' ≤ L.length ∧ i = .int .i64 i' ∧ Below w6.heap.size w6 wr) (fun i _ => L.length - (RowKit.intOf i).toNat)
        case atStart => exact ⟨0, Nat.zero_le _, rfl, Below.refl _ _⟩
        case round =>
          obtain ⟨i, hi, rfl, hB⟩ := hrel
          have hz3 := hB.size
          by_cases hil : i < L.length
          · have hil' : decide ((i : Int) < (L.length : Int)) = true := decide_eq_true (by omega)
            obtain ⟨gd, hgA, hF⟩ := five_at (own_fresh HD6.out hB) rfl hil
            subst hgA
            obtain ⟨y, hy⟩ : ∃ y, L[i] = y := ⟨_, rfl⟩
            rw [hy] at hF
            have HYM := Lib.hid (show y ∈ L from hy ▸ List.getElem_mem hil)
            have HY := Lib.hid (show L[i]? = some y by rw [List.getElem?_eq_getElem hil, hy])
            have HF := Lib.hid hF
            have HIL := Lib.hid hil
            have B := Lib.hid hB
            clear hF hy hil hi
            go_wp2_with fail
            clear hil'
            go_loopw [20, 21] (fun f j wr2 => ∃ q : Nat, f = .bool (fndB T y q) ∧ q ≤ T.length ∧ j = .int .i64 q ∧ Below wr.heap.size wr wr2) (fun _ j _ => T.length - (RowKit.intOf j).toNat)
            case atStart => exact ⟨0, rfl, Nat.zero_le _, rfl, Below.refl _ _⟩
            case round =>
              obtain ⟨q, rfl, hq, rfl, hB2⟩ := hrel
              obtain ⟨W, rfl⟩ : ∃ W, W = wr := ⟨_, rfl⟩
              obtain ⟨W2, rfl⟩ : ∃ W2, W2 = wr := ⟨_, rfl⟩
              have hz4 := hB2.size
              by_cases hql : q < T.length
              · obtain ⟨gT, hgA, hT⟩ := five_at (own_fresh (own_fresh HO6.out B.out) hB2) rfl hql
                subst hgA
                obtain ⟨z, hzz⟩ : ∃ z, T[q] = z := ⟨_, rfl⟩
                have hsu := fndB_succ T y hql
                rw [hzz] at hT hsu
                have hpb := prB_iff z y
                have hi1 := fun V => idx_route gT T.length c9 q hql V
                have hi2 := fun V => idx_route gd L.length c4 i HIL.out V
                have hql' : decide ((q : Int) < (T.length : Int)) = true := decide_eq_true (by omega)
                have HSU := Lib.hid hsu
                have HQL := Lib.hid hql
                obtain ⟨m0, m1, m2, m3, m4, zm⟩ := hT
                obtain ⟨n0, n1, n2, n3, n4, zn⟩ := HF.out.keep hB2
                have Lm0 := fun x : Later W.heap.size W => (x.cell (p := ⟨gT, q * 5, none⟩) zm).trans m0
                have Lm1 := fun x : Later W.heap.size W => (x.cell (p := ⟨gT, q * 5 + 1, none⟩) zm).trans m1
                have Lm2 := fun x : Later W.heap.size W => (x.cell (p := ⟨gT, q * 5 + 2, none⟩) zm).trans m2
                have Lm3 := fun x : Later W.heap.size W => (x.cell (p := ⟨gT, q * 5 + 3, none⟩) zm).trans m3
                have Lm4 := fun x : Later W.heap.size W => (x.cell (p := ⟨gT, q * 5 + 4, none⟩) zm).trans m4
                have Ln0 := fun x : Later W.heap.size W => (x.cell (p := ⟨gd, i * 5, none⟩) zn).trans n0
                have Ln1 := fun x : Later W.heap.size W => (x.cell (p := ⟨gd, i * 5 + 1, none⟩) zn).trans n1
                have Ln2 := fun x : Later W.heap.size W => (x.cell (p := ⟨gd, i * 5 + 2, none⟩) zn).trans n2
                have Ln3 := fun x : Later W.heap.size W => (x.cell (p := ⟨gd, i * 5 + 3, none⟩) zn).trans n3
                have Ln4 := fun x : Later W.heap.size W => (x.cell (p := ⟨gd, i * 5 + 4, none⟩) zn).trans n4
                have HB2 := Lib.hid hB2
                clear hzz hsu hql hq m0 m1 m2 m3 m4 n0 n1 n2 n3 n4 hB2
                cases hfb : fndB T y q
                all_goals
                  have HFB := Lib.hid hfb
                  clear hfb
                  go_wp2_with fail
                  clear hql'
                  refine region_later W.heap.size (by kernel_rfl) (by kernel_rfl) ?_
                  repeat (go_big_quiet_step (fail))
                  refine wpQuiet_nil ?_
                  intro x
                  have hx := x.below
                  generalize x.at = V at hx ⊢
                  clear x Lm0 Lm1 Lm2 Lm3 Lm4 Ln0 Ln1 Ln2 Ln3 Ln4 hi1 hi2
                  have hbV := HB2.out.trans (hx.mono HB2.out.size)
                  clear hx
                  go_wp2
                  go_roundw
                  case rel => exact ⟨q + 1, by rw [HSU.out, HFB.out]; rfl, HQL.out, by go_num, hbV⟩
                  case measure => simp [RowKit.intOf]; have := HQL.out; omega
              · obtain rfl : q = T.length := by omega
                have hql' : decide ((T.length : Int) < (T.length : Int)) = false := by simp
                rw [fndB_all (HMEM.out y HYM.out)]
                have B2 := Lib.hid (B.out.trans (hB2.mono B.out.size))
                have HF2 := Lib.hid (HF.out.keep hB2)
                clear hB2 hz4 hql hq HF B
                go_wp2_with fail
                clear hql'
                go_loopw [22, 23] (fun f j wr2 => ∃ q : Nat, f = .bool (usdB H y.v q) ∧ q ≤ H.length ∧ j = .int .i64 q ∧ Below W.heap.size W wr2) (fun _ j _ => H.length - (RowKit.intOf j).toNat)
                case atStart => exact ⟨0, rfl, Nat.zero_le _, rfl, Below.refl _ _⟩
                case round =>
                  obtain ⟨q, rfl, hq, rfl, hB2⟩ := hrel
                  obtain ⟨W9, rfl⟩ : ∃ W9, W9 = wr := ⟨_, rfl⟩
                  have hz4 := hB2.size
                  by_cases hql : q < H.length
                  · obtain ⟨gH, hgA, hcell, hzH⟩ := int_at (own_fresh (own_fresh HH6.out B2.out) hB2) rfl hql
                    subst hgA
                    obtain ⟨z, hzz⟩ : ∃ z, H[q] = z := ⟨_, rfl⟩
                    have hsu := usdB_succ H y.v hql
                    rw [hzz] at hcell hsu
                    have hi1 := fun V => idx_int gH H.length c5 q hql V
                    have hi2 := fun V => idx_route gd L.length c4 i HIL.out V
                    have hql' : decide ((q : Int) < (H.length : Int)) = true := decide_eq_true (by omega)
                    have HSU := Lib.hid hsu
                    have HQL := Lib.hid hql
                    obtain ⟨n0, n1, n2, n3, n4, zn⟩ := HF2.out.keep hB2
                    have Lh := fun x : Later W9.heap.size W9 => (x.cell (p := ⟨gH, q, none⟩) hzH).trans hcell
                    have Ln4 := fun x : Later W9.heap.size W9 => (x.cell (p := ⟨gd, i * 5 + 4, none⟩) zn).trans n4
                    have HB2 := Lib.hid hB2
                    clear hzz hsu hql hq hcell n0 n1 n2 n3 n4 hB2
                    cases hub : usdB H y.v q
                    all_goals
                      have HUB := Lib.hid hub
                      clear hub
                      go_wp2_with fail
                      clear hql'
                      refine region_later W9.heap.size (by kernel_rfl) (by kernel_rfl) ?_
                      repeat (go_big_quiet_step (fail))
                      refine wpQuiet_nil ?_
                      intro x
                      have hx := x.below
                      generalize x.at = V at hx ⊢
                      clear x Lh Ln4 hi1 hi2
                      have hbV := HB2.out.trans (hx.mono HB2.out.size)
                      clear hx
                      go_wp2
                      go_roundw
                      case rel => exact ⟨q + 1, by rw [HSU.out, HUB.out]; rfl, HQL.out, by go_num, hbV⟩
                      case measure => simp [RowKit.intOf]; have := HQL.out; omega
                  · obtain rfl : q = H.length := by omega
                    have hql' : decide ((H.length : Int) < (H.length : Int)) = false := by simp
                    rw [usdB_all (HHM.out y HYM.out)]
                    have B9 := Lib.hid (B2.out.trans (hB2.mono B2.out.size))
                    have HF9 := Lib.hid (HF2.out.keep hB2)
                    clear hB2 hz4 hql hq HF2 B2
                    have cg := fun V => goodr_any y V
                    rw [HGD.out y HYM.out] at cg
                    have CG := Lib.hid cg
                    clear cg
                    have hi2 := fun V => idx_route gd L.length c4 i HIL.out V
                    obtain ⟨n0, n1, n2, n3, n4, zn⟩ := id HF9.out
                    have Ln0 := fun x : Later W9.heap.size W9 => (x.cell (p := ⟨gd, i * 5, none⟩) zn).trans n0
                    have Ln1 := fun x : Later W9.heap.size W9 => (x.cell (p := ⟨gd, i * 5 + 1, none⟩) zn).trans n1
                    have Ln2 := fun x : Later W9.heap.size W9 => (x.cell (p := ⟨gd, i * 5 + 2, none⟩) zn).trans n2
                    have Ln3 := fun x : Later W9.heap.size W9 => (x.cell (p := ⟨gd, i * 5 + 3, none⟩) zn).trans n3
                    have Ln4 := fun x : Later W9.heap.size W9 => (x.cell (p := ⟨gd, i * 5 + 4, none⟩) zn).trans n4
                    clear n0 n1 n2 n3 n4
                    by_cases hi0 : i = 0
                    · subst hi0
                      have tp : decide ((0 : Int) < ((0 : Nat) : Int)) = false := by decide
                      go_wp2_with fail
                      clear hql'
                      refine region_later W9.heap.size (by kernel_rfl) (by kernel_rfl) ?_
                      repeat (go_big_quiet_step ((go_at_call 27; exact later_of (Nat.le_refl _) (CG.out _))))
                      refine wpQuiet_nil ?_
                      intro x
                      have hx := x.below
                      generalize x.at = V at hx ⊢
                      clear x Ln0 Ln1 Ln2 Ln3 Ln4 hi2
                      have hbV := B9.out.trans (hx.mono B9.out.size)
                      clear hx
                      go_wp2
                      go_roundw
                      case rel => exact ⟨0 + 1, HIL.out, by go_num, hbV⟩
                      case measure => simp [RowKit.intOf]; have := HIL.out; omega
                    · obtain ⟨i1, hii⟩ : ∃ i1, i = i1 + 1 := ⟨i - 1, by omega⟩
                      have hi1' : i1 < L.length := by have := HIL.out; omega
                      obtain ⟨g8, e8, hP⟩ := five_at (own_fresh HD6.out B9.out) rfl hi1'
                      cases e8
                      obtain ⟨z, hzz⟩ : ∃ z, L[i1] = z := ⟨_, rfl⟩
                      rw [hzz] at hP
                      obtain ⟨m0, m1, m2, m3, m4, zm⟩ := hP
                      have hi1 := fun V => idx_route gd L.length c4 i1 hi1' V
                      have hcmp : pcmp z.p y.p = -1 := by
                        subst hii
                        have := srt_step HSS.out HIL.out
                        rw [hzz, (List.getElem?_eq_some_iff.1 HY.out).2] at this
                        exact this
                      have cc := fun V => pcmp_any z.p y.p V
                      rw [hcmp] at cc
                      have CCM := Lib.hid cc
                      have hw1 : IntKind.i64.wrap ((i : Int) - 1) = (i1 : Int) := by rw [IntKind.wrap_i64]; omega
                      have hw2 : (i : Int) - 1 = (i1 : Int) := by omega
                      have tp : decide ((0 : Int) < (i : Int)) = true := decide_eq_true (by omega)
                      have tp2 : 0 < i := by omega
                      have tp3 : decide (0 < i) = true := decide_eq_true tp2
                      clear hi0 hii
                      have Lm0 := fun x : Later W9.heap.size W9 => (x.cell (p := ⟨gd, i1 * 5, none⟩) zm).trans m0
                      have Lm1 := fun x : Later W9.heap.size W9 => (x.cell (p := ⟨gd, i1 * 5 + 1, none⟩) zm).trans m1
                      have Lm2 := fun x : Later W9.heap.size W9 => (x.cell (p := ⟨gd, i1 * 5 + 2, none⟩) zm).trans m2
                      have Lm3 := fun x : Later W9.heap.size W9 => (x.cell (p := ⟨gd, i1 * 5 + 3, none⟩) zm).trans m3
                      clear m0 m1 m2 m3 m4 hcmp cc hzz hi1'
                      go_wp2_with fail
                      clear hql'
                      refine region_later W9.heap.size (by kernel_rfl) (by kernel_rfl) ?_
                      repeat (go_big_quiet_step (first | (go_at_call 27; exact later_of (Nat.le_refl _) (CG.out _)) | (go_at_call 26; exact later_of (Nat.le_refl _) (CCM.out _))))
                      refine wpQuiet_nil ?_
                      intro x
                      have hx := x.below
                      generalize x.at = V at hx ⊢
                      clear x Ln0 Ln1 Ln2 Ln3 Ln4 Lm0 Lm1 Lm2 Lm3 hi2 hi1 hw1 hw2 tp tp2 tp3
                      have hbV := B9.out.trans (hx.mono B9.out.size)
                      clear hx
                      go_wp2
                      go_roundw
                      case rel => exact ⟨i + 1, HIL.out, by go_num, hbV⟩
                      case measure => simp [RowKit.intOf]; have := HIL.out; omega
          · obtain rfl : i = L.length := by omega
            have hil' : decide ((L.length : Int) < (L.length : Int)) = false := by simp
            clear hil hi
            go_wp2_with fail
            clear hil'
            go_loopw [24] (fun i wr2 => ∃ q : Nat, 1 ≤ q ∧ (q ≤ H.length ∨ q = 1) ∧ i = .int .i64 q ∧ Below wr.heap.size wr wr2) (fun i _ => H.length - (RowKit.intOf i).toNat)
            case atStart => exact ⟨1, Nat.le_refl _, .inr rfl, rfl, Below.refl _ _⟩
            case round =>
              obtain ⟨q, hq1, hq, rfl, hB2⟩ := hrel
              obtain ⟨W, rfl⟩ : ∃ W, W = wr := ⟨_, rfl⟩
              have hz4 := hB2.size
              have b9 := hB.trans (hB2.mono hB.size)
              have B9 := Lib.hid b9
              have B8 := Lib.hid hB2
              by_cases hql : q < H.length
              · obtain ⟨p1, hqp⟩ : ∃ p1, q = p1 + 1 := ⟨q - 1, by omega⟩
                have hp1 : p1 < H.length := by omega
                obtain ⟨gH, hgA, hc1, hzH⟩ := int_at (own_fresh HH6.out b9) rfl hql
                subst hgA
                obtain ⟨gH', e8, hc0, hzH'⟩ := int_at (own_fresh HH6.out b9) rfl hp1
                cases e8
                have hri : H[p1] < H[q] := by
                  subst hqp
                  exact HRI.out p1 hql
                have hi1 := fun V => idx_int gH H.length c5 p1 hp1 V
                have hi2 := fun V => idx_int gH H.length c5 q hql V
                generalize H[p1] = z0 at hc0 hri
                generalize H[q] = z1 at hc1 hri
                have tz : decide (z1 ≤ z0) = false := decide_eq_false (by omega)
                have hw1 : IntKind.i64.wrap ((q : Int) - 1) = (p1 : Int) := by rw [IntKind.wrap_i64]; omega
                have hw2 : (q : Int) - 1 = (p1 : Int) := by omega
                have hql' : decide ((q : Int) < (H.length : Int)) = true := decide_eq_true (by omega)
                clear hqp hp1
                have HQL := Lib.hid hql
                have Lh0 := fun x : Later W.heap.size W => (x.cell (p := ⟨gH, p1, none⟩) hzH).trans hc0
                have Lh1 := fun x : Later W.heap.size W => (x.cell (p := ⟨gH, q, none⟩) hzH).trans hc1
                clear hri hc0 hc1 hql hq hq1 b9 hB2 hz4
                go_wp2_with fail
                clear hql'
                refine region_later W.heap.size (by kernel_rfl) (by kernel_rfl) ?_
                repeat (go_big_quiet_step (fail))
                refine wpQuiet_nil ?_
                intro x
                have hx := x.below
                generalize x.at = V at hx ⊢
                clear x Lh0 Lh1 hi2 hi1 hw1 hw2
                have hbV := B8.out.trans (hx.mono B8.out.size)
                clear hx
                go_wp2
                go_roundw
                case rel => exact ⟨q + 1, by omega, .inl HQL.out, by go_num, hbV⟩
                case measure => simp [RowKit.intOf]; have := HQL.out; omega
              · have hql' : decide ((q : Int) < (H.length : Int)) = false := decide_eq_false (by omega)
                have tl : decide ((H.length : Int) ≤ (L.length : Int)) = true := decide_eq_true (by have := HHH.out; omega)
                have tl2 := HHH.out
                go_wp2
                go_ret
                exact ⟨rfl, B6.out.trans (B9.out.mono B6.out.size)⟩

end Go.Proofs.Ythdnpilkkegniaa

namespace Go.Proofs.Ythdnpilkkegniaa
open Go.ChangeShapes Go.WideShapes Go.ChangeAt Go.RowKit

set_option maxRecDepth 100000 in
theorem ribDump_lifted (os : Os) (started : os.Started) (H : Type) (enc : TypeId × Value → H) :
    ReturnsInHanded {} Try.checked os 4 .any (Rows.ribDumpSpec.pre6 enc Try.prog Try.f4 Rows.ribDumpRow.domain false) (Rows.ribDumpSpec.post enc Try.prog Try.f4 false true false false) := by
  refine returnsInHanded_of_change (C := Try.checked) own started (by kernel_rfl) Try.func4
    (ChangeSpec.witness6 (enc := enc) (C := Try.checked) false ⟨#[], #[.int .i64 0, .int .i64 0, .slice none 0 0], []⟩ 8 (by kernel_rfl) (by kernel_rfl) (by kernel_rfl) (by kernel_rfl)) ?_
  intro W base args ds gs before hval0 hW hcnd _
  have hval : ∀ (j : Nat) t v, Try.f4.params[j]? = some t → args[j]? = some v → Value.okWide Try.prog W .any base t v := hval0
  have hW' := hW
  obtain ⟨p, q, hA0, hV, rfl, hfz, hnd⟩ := hW
  have hA : DataW.TrodAll enc Try.prog W 0 (fun _ => true) true Try.f4.params.toList args.toList ds p := hA0
  rw [Try.params4] at hA hval
  obtain ⟨v0, vs0, d0, ds0, p0, q0, hargs, rfl, rfl, h0, r0⟩ := trodAll_cons hA
  obtain ⟨v1, vs1, d1, ds1, p1, q1, rfl, rfl, rfl, h1, r1⟩ := trodAll_cons r0
  obtain ⟨v2, vs2, d2, ds2, p2, q2, rfl, rfl, rfl, h2, r2⟩ := trodAll_cons r1
  obtain ⟨rfl, rfl, rfl⟩ := trodAll_nil r2
  obtain rfl : args = #[v0, v1, v2] := by cases args; simp_all
  obtain ⟨rfl, rfl⟩ := trodVars_none hV
  have lt0 : ∀ x ∈ p0, x.block < W.heap.size := by obtain ⟨m, hm⟩ := h0; exact DataW.trod_lt m _ _ _ hm
  have k0 := h0
  obtain ⟨a0, rfl, e0, f0, w0⟩ := open_int Try.underlying3 (hval 0 3 v0 rfl rfl) h0
  have lt1 : ∀ x ∈ p1, x.block < W.heap.size := by obtain ⟨m, hm⟩ := h1; exact DataW.trod_lt m _ _ _ hm
  have k1 := h1
  obtain ⟨a1, rfl, e1, f1, w1⟩ := open_int Try.underlying3 (hval 1 3 v1 rfl rfl) h1
  have lt2 : ∀ x ∈ p2, x.block < W.heap.size := by obtain ⟨m, hm⟩ := h2; exact DataW.trod_lt m _ _ _ hm
  obtain ⟨A2, cap2, l2, rfl, w2⟩ := open_acs6 (hval 2 47 v2 rfl rfl) h2 (fun _ => rfl)
  clear hA0 hval0
  refine (ribdump_law a0 a1 A2 cap2 l2 W w2).mono fun e W' ⟨he, bel⟩ => ?_
  subst he
  exact ⟨_, rfl, _, _, _, [], _, [], hW', trodAll_mk1 (shut_bool Try.underlying4 _), (trodAll_cons_mk (Below.trod laidOut (by kernel_rfl) (of_decide_eq_true (by kernel_rfl)) h0 bel lt0) (trodAll_cons_mk (Below.trod laidOut (by kernel_rfl) (of_decide_eq_true (by kernel_rfl)) h1 bel lt1) (trodAll_cons_mk (Below.trod laidOut (by kernel_rfl) (of_decide_eq_true (by kernel_rfl)) h2 bel lt2) trodAll_mk0))), rfl, bel.frame _, fun h => by cases h⟩

theorem ribDump_holds : Rows.RibDumpSaid :=
  OpenClaim.holds_of_wide 4 Try.f4 rfl rfl rfl rfl rfl rfl rfl ⟨rfl, rfl, rfl, rfl, rfl⟩ rfl rfl rfl rfl rfl (by kernel_rfl) Try.func4 (by kernel_rfl)
    (of_decide_eq_true (by kernel_rfl)) (by unfold Func.isWrapper; first | (rw [if_pos (by decide +kernel)]; kernel_rfl) | (rw [if_neg (by decide +kernel)]; exact ⟨rfl, rfl⟩))
    (fun os started H enc _ => ribDump_lifted os started H enc)

end Go.Proofs.Ythdnpilkkegniaa
