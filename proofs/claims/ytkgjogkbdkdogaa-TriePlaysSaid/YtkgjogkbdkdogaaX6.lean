/-
  TriePlays: for every input the call returns true, and each argument reads afterwards as it read before. No condition.
-/
import Derived.Test.YtkgjogkbdkdogaaRows
import Derived.Test.YtkgjogkbdkdogaaAd
import Derived.ProofKit
import Derived.OpenShut
import Derived.ChangeOld
import Derived.Lib.SmallJoins
import Derived.Test.YtkgjogkbdkdogaaPf
import Derived.Deep.Strs
import Derived.Test.YtkgjogkbdkdogaaX1
import Derived.Deep.Slices
import Derived.Test.YtkgjogkbdkdogaaX5
import Derived.Test.YtkgjogkbdkdogaaX4
import Derived.Deep.DeepCutAuto
import Derived.Deep.RegionHeld3
namespace Go.Proofs.Ytkgjogkbdkdogaa
open Go.ChangeShapes Go.WideShapes Go.ChangeAt Go.RowKit Go.Joins
set_option maxRecDepth 100000

theorem own : ownKnob Try.prog.godebug = none := by kernel_rfl
theorem laidOut : laidOutB Try.prog = true := by kernel_rfl

theorem open_ad {H : Type} {enc : TypeId × Value → H} {W : World} {base b0 : Nat} {spare : Nat → Bool} {held : Bool} {r : Reach} {v : Value} {d : DataW H} {p : List MemPlace}
    (hv : Value.okWide Try.prog W r b0 25 v) (h : DataW.Trod enc Try.prog W base spare held 25 v d p) :
    ∃ a : Ad, v = .agg #[.int .u64 (u a.hi), .int .u64 (u a.lo), .bool a.v6] := by
  obtain ⟨c0, c1, c2, y0, y1, y2, m, rfl, rfl, rfl, h0, h1, h2⟩ := open_agg3 Try.underlying25 (by kernel_rfl) (by kernel_rfl) hv h
  obtain ⟨x0, e0, _, w0⟩ := DataW.trod_int Try.underlying23 h0
  obtain ⟨x1, e1, _, w1⟩ := DataW.trod_int Try.underlying23 h1
  obtain ⟨x2, e2, _⟩ := DataW.trod_bool Try.underlying4 h2
  obtain ⟨lo0, hi0⟩ := bounds_u64 w0
  obtain ⟨lo1, hi1⟩ := bounds_u64 w1
  obtain ⟨a0, rfl⟩ := u_of x0 lo0 (by omega)
  obtain ⟨a1, rfl⟩ := u_of x1 lo1 (by omega)
  simp at e0 e1 e2
  subst e0 e1 e2
  exact ⟨⟨a0, a1, x2⟩, rfl⟩

/-- A list of bytes that comes in: nil; or a row of cells that fit. -/
def IsBytes (w : World) (A : Option Addr) (len cap : Nat) (zs : List Int) : Prop :=
  (A = none ∧ len = 0 ∧ cap = 0 ∧ zs = []) ∨
  ∃ x, A = some x ∧ len ≤ cap ∧ cap ≤ maxLen ∧ zs.length = cap ∧ (∀ i, i < zs.length → w.cell? (x.add i) = some (.int .u8 (zs.getD i 0))) ∧ ∀ n ∈ zs, 0 ≤ n ∧ n < 256
theorem open_bytes {H : Type} {enc : TypeId × Value → H} {W : World} {base b0 : Nat} {spare : Nat → Bool} {held : Bool} {r : Reach} {v : Value} {d : DataW H} {p : List MemPlace}
    (hv : Value.okWide Try.prog W r b0 49 v) (h : DataW.Trod enc Try.prog W base spare held 49 v d p) (hs : ∀ b, spare b = true) :
    ∃ A len cap zs, v = .slice A len cap ∧ IsBytes W A len cap zs := by
  obtain ⟨A, len, cap, rfl⟩ := okWide_slice Try.underlying49 hv
  obtain ⟨fuel, hf⟩ := h
  rcases open_ints Try.underlying49 Try.underlying5 (by kernel_rfl) hf with ⟨hcs, _⟩ | ⟨x, l, c, zs, hcs, _, hl, hm, hz, _, hcell, hwz⟩
  · simp [Value.cells] at hcs
    obtain ⟨rfl, rfl, rfl⟩ := hcs
    exact ⟨none, 0, 0, [], rfl, .inl ⟨rfl, rfl, rfl, rfl⟩⟩
  · simp [Value.cells] at hcs
    obtain ⟨rfl, rfl, rfl⟩ := hcs
    refine ⟨some x, len, cap, zs, rfl, .inr ⟨x, rfl, hl, hm, by simpa [hs] using hz, hcell, fun n hn => ?_⟩⟩
    obtain ⟨lo, hi⟩ := bounds_u8 (hwz n hn)
    omega

end Go.Proofs.Ytkgjogkbdkdogaa

namespace Go.Proofs.Ytkgjogkbdkdogaa
set_option maxRecDepth 100000
open Go.ChangeShapes Go.WideShapes Go.ChangeAt Go.RowKit Go.Joins Go.Deep

theorem open_pf {H : Type} {enc : TypeId × Value → H} {W : World} {base b0 : Nat} {spare : Nat → Bool} {held : Bool} {r : Reach} {v : Value} {d : DataW H} {p : List MemPlace}
    (hv : Value.okWide Try.prog W r b0 27 v) (h : DataW.Trod enc Try.prog W base spare held 27 v d p) :
    ∃ a : Pf, v = .agg #[.int .u64 (u a.a.hi), .int .u64 (u a.a.lo), .bool a.a.v6, .int .i64 a.n] ∧ (Lit.int IntKind.i64 a.n).wf = true := by
  obtain ⟨cs, rfl, hsz⟩ := okWide_struct Try.underlying27 hv
  obtain ⟨c0, c1, c2, c3, rfl⟩ := array4 (hsz.trans (by kernel_rfl))
  obtain ⟨fuel, hf⟩ := h
  obtain ⟨y0, y1, n, hx, _, h0, h1⟩ := trod_struct2 Try.underlying27 hf
  have k0 : Try.prog.cellsOf 25 = 3 := by kernel_rfl
  have k1 : Try.prog.cellsOf 3 = 1 := by kernel_rfl
  have g0 : DataW.trod enc Try.prog W base spare held n 25 [c0, c1, c2] = some y0 := by simpa [Value.cells, k0] using h0
  have g1 : DataW.trod enc Try.prog W base spare held n 3 [c3] = some y1 := by simpa [Value.cells, k1] using h1
  obtain ⟨z0, z1, z2, m, hz, _, i0, i1, i2⟩ := trod_struct3 Try.underlying25 g0
  have k2 : Try.prog.cellsOf 23 = 1 := by kernel_rfl
  have k3 : Try.prog.cellsOf 4 = 1 := by kernel_rfl
  have j0 : DataW.trod enc Try.prog W base spare held m 23 [c0] = some z0 := by simpa [k2] using i0
  have j1 : DataW.trod enc Try.prog W base spare held m 23 [c1] = some z1 := by simpa [k2] using i1
  have j2 : DataW.trod enc Try.prog W base spare held m 4 [c2] = some z2 := by simpa [k3] using i2
  obtain ⟨x0, e0, _, w0⟩ := DataW.trod_int Try.underlying23 j0
  obtain ⟨x1, e1, _, w1⟩ := DataW.trod_int Try.underlying23 j1
  obtain ⟨x2, e2, _⟩ := DataW.trod_bool Try.underlying4 j2
  obtain ⟨x3, e3, _, w3⟩ := DataW.trod_int Try.underlying3 g1
  obtain ⟨lo0, hi0⟩ := bounds_u64 w0
  obtain ⟨lo1, hi1⟩ := bounds_u64 w1
  obtain ⟨a0, rfl⟩ := u_of x0 lo0 (by omega)
  obtain ⟨a1, rfl⟩ := u_of x1 lo1 (by omega)
  simp at e0 e1 e2 e3
  subst e0 e1 e2 e3
  exact ⟨⟨⟨a0, a1, x2⟩, x3⟩, rfl, w3⟩

end Go.Proofs.Ytkgjogkbdkdogaa

namespace Go.Proofs.Ytkgjogkbdkdogaa
set_option maxRecDepth 100000
open Go.ChangeShapes Go.WideShapes Go.ChangeAt Go.RowKit Go.Joins Go.Deep

theorem add_plain' (g off j : Nat) : (⟨g, off, none⟩ : Addr).add j = ⟨g, off + j, none⟩ := by unfold Addr.add; split <;> simp_all
def nilAc : Ac := ⟨false, nilP, 0⟩
def pf4 (p : Pf) : List Value := [.int .u64 (u p.a.hi), .int .u64 (u p.a.lo), .bool p.a.v6, .int .i64 p.n]
/-- Prefixes that lie in memory, as a slice says. -/
def RdP (w : World) (A : Option Addr) (ls : List Pf) : Prop :=
  ls ≠ [] → ∃ g off, A = some ⟨g, off, none⟩ ∧ g < w.heap.size ∧ ∀ i, (h : i < ls.length) → w.cell? ⟨g, off + i * 4, none⟩ = some (.int .u64 (u ls[i].a.hi)) ∧ w.cell? ⟨g, off + i * 4 + 1, none⟩ = some (.int .u64 (u ls[i].a.lo)) ∧ w.cell? ⟨g, off + i * 4 + 2, none⟩ = some (.bool ls[i].a.v6) ∧ w.cell? ⟨g, off + i * 4 + 3, none⟩ = some (.int .i64 ls[i].n)
theorem ac_cells {H : Type} {enc : TypeId × Value → H} {W : World} {base n : Nat} {spare : Nat → Bool} {held : Bool} {cs : List Value} {x : DataW H × List MemPlace}
    (hl : cs.length = 6) (h : DataW.trod enc Try.prog W base spare held n 38 cs = some x) : ∃ r : Ac, cs = ac6 r := by
  match cs, hl with
  | [c, c0, c1, c2, c3, c4], _ =>
  obtain ⟨y, y0, y1, n, hx, _, h, h0, h1⟩ := trod_struct3 Try.underlying38 h
  have k0 : Try.prog.cellsOf 27 = 4 := by kernel_rfl
  have k1 : Try.prog.cellsOf 3 = 1 := by kernel_rfl
  have k3 : Try.prog.cellsOf 4 = 1 := by kernel_rfl
  have g : DataW.trod enc Try.prog W base spare held n 4 [c] = some y := by simpa [k3] using h
  have g0 : DataW.trod enc Try.prog W base spare held n 27 [c0, c1, c2, c3] = some y0 := by simpa [k0, k3] using h0
  have g1 : DataW.trod enc Try.prog W base spare held n 3 [c4] = some y1 := by simpa [k0, k1, k3] using h1
  obtain ⟨y2, y3, n2, _, _, h2, h3⟩ := trod_struct2 Try.underlying27 g0
  have k4 : Try.prog.cellsOf 25 = 3 := by kernel_rfl
  have g2 : DataW.trod enc Try.prog W base spare held n2 25 [c0, c1, c2] = some y2 := by simpa [k4] using h2
  have g3 : DataW.trod enc Try.prog W base spare held n2 3 [c3] = some y3 := by simpa [k1] using h3
  obtain ⟨z0, z1, z2, m, hz, _, i0, i1, i2⟩ := trod_struct3 Try.underlying25 g2
  have k2 : Try.prog.cellsOf 23 = 1 := by kernel_rfl
  have j0 : DataW.trod enc Try.prog W base spare held m 23 [c0] = some z0 := by simpa [k2] using i0
  have j1 : DataW.trod enc Try.prog W base spare held m 23 [c1] = some z1 := by simpa [k2] using i1
  have j2 : DataW.trod enc Try.prog W base spare held m 4 [c2] = some z2 := by simpa [k3] using i2
  obtain ⟨x, e, _⟩ := DataW.trod_bool Try.underlying4 g
  obtain ⟨x0, e0, _, w0⟩ := DataW.trod_int Try.underlying23 j0
  obtain ⟨x1, e1, _, w1⟩ := DataW.trod_int Try.underlying23 j1
  obtain ⟨x2, e2, _⟩ := DataW.trod_bool Try.underlying4 j2
  obtain ⟨x3, e3, _, w3⟩ := DataW.trod_int Try.underlying3 g3
  obtain ⟨x4, e4, _, w4⟩ := DataW.trod_int Try.underlying3 g1
  obtain ⟨lo0, hi0⟩ := bounds_u64 w0
  obtain ⟨lo1, hi1⟩ := bounds_u64 w1
  obtain ⟨a0, rfl⟩ := u_of x0 lo0 (by omega)
  obtain ⟨a1, rfl⟩ := u_of x1 lo1 (by omega)
  simp at e e0 e1 e2 e3 e4
  subst e e0 e1 e2 e3 e4
  exact ⟨⟨x, ⟨⟨a0, a1, x2⟩, x3⟩, x4⟩, rfl⟩
theorem open_acs {H : Type} {enc : TypeId × Value → H} {W : World} {base b0 : Nat} {spare : Nat → Bool} {held : Bool} {r : Reach} {v : Value} {d : DataW H} {p : List MemPlace}
    (hv : Value.okWide Try.prog W r b0 22 v) (h : DataW.Trod enc Try.prog W base spare held 22 v d p) (_ : ∀ b, spare b = true) :
    ∃ A c rs, v = .slice A (List.length rs) c ∧ RdA W A rs := by
  obtain ⟨A, len, cap, rfl⟩ := okWide_slice Try.underlying22 hv
  obtain ⟨fuel, hf⟩ := h
  have h5 : Try.prog.cellsOf 38 = 6 := by kernel_rfl
  rcases open_slice Try.underlying22 hf with ⟨hcs, _⟩ | ⟨a, l, c, m, n, D, Pl, hcs, _, hl, hm, hmm, _, hi⟩
  · simp [Value.cells] at hcs
    obtain ⟨rfl, rfl, rfl⟩ := hcs
    exact ⟨none, 0, [], rfl, fun h => absurd rfl h⟩
  · simp [Value.cells] at hcs
    obtain ⟨rfl, rfl, rfl⟩ := hcs
    have hlm : len ≤ m := by rw [hmm]; split <;> omega
    have key : ∀ i, i < len → ∃ r : Ac, ∀ j x, (ac6 r)[j]? = some x → W.cell? (a.add (i * 6 + j)) = some x := by
      intro i hlt
      obtain ⟨cs', hc, ht⟩ := hi i (by omega)
      rw [h5] at hc
      obtain ⟨_, hcl, hat⟩ := World.cells?_some hc
      obtain ⟨r, rfl⟩ := ac_cells hcl ht
      refine ⟨r, fun j x hx => ?_⟩
      have hj : j < 6 := by
        rcases Nat.lt_or_ge j 6 with h1 | h1
        · exact h1
        · rw [List.getElem?_eq_none (by simp [ac6]; omega)] at hx; cases hx
      rw [← Go.Deep.add_add, hat j hj, hx]
    have hch : ∃ f : Nat → Ac, ∀ i, i < len → ∀ j x, (ac6 (f i))[j]? = some x → W.cell? (a.add (i * 6 + j)) = some x :=
      ⟨fun i => if h : i < len then (key i h).choose else nilAc, fun i hlt j x hx => (key i hlt).choose_spec j x (by simpa [hlt] using hx)⟩
    obtain ⟨f, hf2⟩ := hch
    refine ⟨some a, cap, (List.range len).map f, by simp, fun hne => ?_⟩
    have hpos : 0 < len := by
      rcases Nat.eq_zero_or_pos len with h0 | h0
      · rw [h0] at hne; simp at hne
      · exact h0
    obtain ⟨g, off, spot⟩ := a
    have hspot : spot = none := by
      have := hf2 0 hpos 0 _ rfl
      rw [show 0 * 6 + 0 = 0 from rfl] at this
      simpa [Addr.add] using World.cell?_spot this
    subst hspot
    have hcell : ∀ i, i < len → ∀ j x, (ac6 (f i))[j]? = some x → W.cell? ⟨g, off + i * 6 + j, none⟩ = some x := fun i hlt j x hx => by
      have := hf2 i hlt j x hx
      rw [add_plain', ← Nat.add_assoc] at this
      exact this
    refine ⟨g, off, rfl, World.block_lt_of_cell? W ⟨g, off + 0 * 6 + 0, none⟩ (hcell 0 hpos 0 _ rfl), fun i hlt => ?_⟩
    have hlt' : i < len := by simpa using hlt
    have e : ((List.range len).map f)[i] = f i := by simp
    rw [e]
    exact ⟨hcell i hlt' 0 _ rfl, hcell i hlt' 1 _ rfl, hcell i hlt' 2 _ rfl, hcell i hlt' 3 _ rfl, hcell i hlt' 4 _ rfl, hcell i hlt' 5 _ rfl⟩
theorem pf_cells {H : Type} {enc : TypeId × Value → H} {W : World} {base n : Nat} {spare : Nat → Bool} {held : Bool} {cs : List Value} {x : DataW H × List MemPlace}
    (hl : cs.length = 4) (h : DataW.trod enc Try.prog W base spare held n 27 cs = some x) : ∃ r : Pf, cs = pf4 r := by
  match cs, hl with
  | [c0, c1, c2, c3], _ =>
  obtain ⟨y2, y3, n2, _, _, h2, h3⟩ := trod_struct2 Try.underlying27 h
  have k1 : Try.prog.cellsOf 3 = 1 := by kernel_rfl
  have k4 : Try.prog.cellsOf 25 = 3 := by kernel_rfl
  have g2 : DataW.trod enc Try.prog W base spare held n2 25 [c0, c1, c2] = some y2 := by simpa [k4] using h2
  have g3 : DataW.trod enc Try.prog W base spare held n2 3 [c3] = some y3 := by simpa [k1, k4] using h3
  obtain ⟨z0, z1, z2, m, hz, _, i0, i1, i2⟩ := trod_struct3 Try.underlying25 g2
  have k2 : Try.prog.cellsOf 23 = 1 := by kernel_rfl
  have k3 : Try.prog.cellsOf 4 = 1 := by kernel_rfl
  have j0 : DataW.trod enc Try.prog W base spare held m 23 [c0] = some z0 := by simpa [k2] using i0
  have j1 : DataW.trod enc Try.prog W base spare held m 23 [c1] = some z1 := by simpa [k2] using i1
  have j2 : DataW.trod enc Try.prog W base spare held m 4 [c2] = some z2 := by simpa [k3] using i2
  obtain ⟨x0, e0, _, w0⟩ := DataW.trod_int Try.underlying23 j0
  obtain ⟨x1, e1, _, w1⟩ := DataW.trod_int Try.underlying23 j1
  obtain ⟨x2, e2, _⟩ := DataW.trod_bool Try.underlying4 j2
  obtain ⟨x3, e3, _, w3⟩ := DataW.trod_int Try.underlying3 g3
  obtain ⟨lo0, hi0⟩ := bounds_u64 w0
  obtain ⟨lo1, hi1⟩ := bounds_u64 w1
  obtain ⟨a0, rfl⟩ := u_of x0 lo0 (by omega)
  obtain ⟨a1, rfl⟩ := u_of x1 lo1 (by omega)
  simp at e0 e1 e2 e3
  subst e0 e1 e2 e3
  exact ⟨⟨⟨a0, a1, x2⟩, x3⟩, rfl⟩
end Go.Proofs.Ytkgjogkbdkdogaa

namespace Go.Proofs.Ytkgjogkbdkdogaa
open Go.RowKit Go.Maps
set_option maxRecDepth 100000

theorem newk_any (w : World) : Calls Try.prog 6 #[] w fun e w' => e = .returned (.agg #[.slice none 0 0, .int .i64 2]) ∧ Below w.heap.size w w' := by
  go_enter Try.func6, Try.ntmps6
  go_wp2
  refine bodyPost_ret (v := .agg #[.slice none 0 0, .int .i64 2]) (by simp [*, results, Try.results6, go_sem] <;> rfl) rfl ⟨rfl, ?_⟩
  go_grown
theorem two {w : World} {b : Nat} {x0 x1 : Value} {e : TypeId} (h : w.heap[b]? = some (.cells #[x0, x1] e (0, 0))) :
    w.cell? ⟨b, 0, none⟩ = some x0 ∧ w.cell? ⟨b, 1, none⟩ = some x1 ∧ w.frozen? ⟨b, 0, none⟩ = false ∧ w.frozen? ⟨b, 1, none⟩ = false ∧ b < w.heap.size :=
  ⟨by rw [cell_row h]; rfl, by rw [cell_row h]; rfl, frozen_of_row _ _ _ _ _ h, frozen_of_row _ _ _ _ _ h, lt_of_block h⟩
theorem row2_set {w : World} {b : Nat} {x0 x1 y0 y1 : Value} {e : TypeId} (h : w.heap[b]? = some (.cells #[x0, x1] e (0, 0))) :
    ((w.setCell ⟨b, 0, none⟩ y0).setCell ⟨b, 1, none⟩ y1).heap[b]? = some (.cells #[y0, y1] e (0, 0)) :=
  heap_setCell_same _ b 1 _ e y1 (heap_setCell_same w b 0 _ e y0 h)
/-- The tree and the document's pairs side by side: the pairs' box is q. -/
structure Both (N t q : Nat) (S : Nat → Prop) (A : Option Addr) (c : Nat) (L : List Pr) (M : Nat) (wr : World) : Prop where
  T : Trie wr t S L M
  Q : wr.heap[q]? = some (.cells #[.slice A L.length c, .int .i64 (M : Int)] 33 (0, 0))
  R : RdQ wr A L
  nq : ¬ S q
  ng : ∀ g off, A = some ⟨g, off, none⟩ → L ≠ [] → ¬ S g ∧ g ≠ q
  zq : N ≤ q
theorem Both.keep {N t q : Nat} {S : Nat → Prop} {A : Option Addr} {c : Nat} {L : List Pr} {M : Nat} {wr w1 : World} (h : Both N t q S A c L M wr) (hb : Below wr.heap.size wr w1) : Both N t q S A c L M w1 :=
  ⟨h.T.keep hb, (hb.block q (lt_of_block h.Q)).trans h.Q, h.R.keep hb (Nat.le_refl _), h.nq, h.ng, h.zq⟩
theorem keepu2 {W w' : World} {b : Nat} {c0 c1 : Value} (h : Below W.heap.size W w') (hlt : b < W.heap.size) (h0 : W.cell? ⟨b, 0, none⟩ = some c0) (h1 : W.cell? ⟨b, 1, none⟩ = some c1) :
    w'.cell? ⟨b, 0, none⟩ = some c0 ∧ w'.cell? ⟨b, 1, none⟩ = some c1 ∧ Below W.heap.size W w' := ⟨(h.cell (p := ⟨b, 0, none⟩) hlt).trans h0, (h.cell (p := ⟨b, 1, none⟩) hlt).trans h1, h⟩
theorem keep8L {W w' : World} {q g : Nat} {o0 o1 o2 o3 o4 o5 : Nat} {a0 a1 c0 c1 c2 c3 c4 c5 : Value} (hb : Below W.heap.size W w') (hq : q < W.heap.size) (hg : g < W.heap.size) (x0 : W.cell? ⟨q, 0, none⟩ = some a0) (x1 : W.cell? ⟨q, 1, none⟩ = some a1) (h0 : W.cell? ⟨g, o0, none⟩ = some c0) (h1 : W.cell? ⟨g, o1, none⟩ = some c1) (h2 : W.cell? ⟨g, o2, none⟩ = some c2) (h3 : W.cell? ⟨g, o3, none⟩ = some c3) (h4 : W.cell? ⟨g, o4, none⟩ = some c4) (h5 : W.cell? ⟨g, o5, none⟩ = some c5) :
    w'.cell? ⟨q, 0, none⟩ = some a0 ∧ w'.cell? ⟨q, 1, none⟩ = some a1 ∧ w'.cell? ⟨g, o0, none⟩ = some c0 ∧ w'.cell? ⟨g, o1, none⟩ = some c1 ∧ w'.cell? ⟨g, o2, none⟩ = some c2 ∧ w'.cell? ⟨g, o3, none⟩ = some c3 ∧ w'.cell? ⟨g, o4, none⟩ = some c4 ∧ w'.cell? ⟨g, o5, none⟩ = some c5 ∧ Below W.heap.size W w' :=
  ⟨(hb.cell (p := ⟨q, 0, none⟩) hq).trans x0, (hb.cell (p := ⟨q, 1, none⟩) hq).trans x1, (hb.cell (p := ⟨g, o0, none⟩) hg).trans h0, (hb.cell (p := ⟨g, o1, none⟩) hg).trans h1, (hb.cell (p := ⟨g, o2, none⟩) hg).trans h2, (hb.cell (p := ⟨g, o3, none⟩) hg).trans h3, (hb.cell (p := ⟨g, o4, none⟩) hg).trans h4, (hb.cell (p := ⟨g, o5, none⟩) hg).trans h5, hb⟩
/-- At the head of a round. -/
def BothRel (w : World) (N t q : Nat) (ls : List Ac) (P : World → Prop) (n : Value) (wr : World) : Prop :=
  ∃ (k : Nat) (S : Nat → Prop) (A : Option Addr) (c : Nat), k ≤ ls.length ∧ n = .int .i64 k ∧ Both N t q S A c (playK ls k).1 (playK ls k).2 wr ∧ (playK ls k).2 ≤ 2 + 128 * k ∧ (∀ b, S b → N ≤ b) ∧ Below w.heap.size w wr ∧ N ≤ wr.heap.size ∧ P wr

set_option maxHeartbeats 16000000 in
theorem plays_law (A : Option Addr) (cap : Nat) (ls : List Ac) (p : Pf) (a : Ad) (w : World) (hr : RdA w A ls) :
    Calls Try.prog 3 #[.slice A ls.length cap, .agg #[.int .u64 (u p.a.hi), .int .u64 (u p.a.lo), .bool p.a.v6, .int .i64 p.n], .agg #[.int .u64 (u a.hi), .int .u64 (u a.lo), .bool a.v6]] w fun e w' => e = .returned (.bool true) ∧ Below w.heap.size w w' := by
  have HR := Lib.hid hr
  clear hr
  by_cases hlen : 60 < ls.length
  · have t0 : decide ((60 : Int) < (ls.length : Int)) = true := by simp; omega
    go_enter Try.func3, Try.ntmps3
    go_wp2_with fail
    refine (awake5_any _).mono ?_
    rintro e w1 ⟨rfl, hw1⟩
    have b1 : Below w.heap.size w w1 := below_of (by go_grown) hw1
    go_wp2
    go_ret
    exact ⟨rfl, b1⟩
  · have t0 : decide ((60 : Int) < (ls.length : Int)) = false := by simp; omega
    go_enter Try.func3, Try.ntmps3
    go_wp2_with fail
    generalize hW0 : World.alloc (World.alloc w _) _ = W0
    have b0 : Below w.heap.size w W0 := by subst hW0; go_grown
    have hP0 : PBox W0 w.heap.size p := by subst hW0; exact ⟨by go_simp <;> rfl, by go_simp <;> rfl, by go_simp <;> rfl, by go_simp <;> rfl, by go_simp <;> rfl, by go_simp <;> rfl, by go_simp <;> rfl, by go_simp <;> rfl, by go_size⟩
    have hA0 : ABox W0 (w.heap.size + 1) a := by subst hW0; exact ⟨by go_simp <;> rfl, by go_simp <;> rfl, by go_simp <;> rfl, by go_size⟩
    clear hW0
    refine (awake5_any _).mono ?_
    rintro e w1 ⟨rfl, hw1⟩
    have b1 := below_of (w := w) b0 hw1
    have hP1 := hP0.keep hw1
    have hA1 := hA0.keep hw1
    clear hP0 hA0 hw1 b0
    go_wp2_with fail
    refine (trie_new _).mono ?_
    rintro e w3 ⟨t, S3, rfl, hT3, hb3, hS3⟩
    have b3 := below_of (w := w) b1 hb3
    have hP3 := hP1.keep hb3
    have hA3 := hA1.keep hb3
    have za1 : w.heap.size + 1 < w1.heap.size := hA1.2.2.2
    have n3 : ∀ b, S3 b → w.heap.size + 1 + 1 ≤ b := fun b hb => by have := hS3 b hb; omega
    clear hP1 hA1 hb3 hS3
    go_wp2_with fail
    refine (newk_any _).mono ?_
    rintro e w4 ⟨rfl, hb4⟩
    have b4 := below_of (w := w) b3 hb4
    have hBoth : Both (w.heap.size + 1 + 1) t w4.heap.size S3 none 0 [] 2 (w4.alloc (.cells #[.slice none 0 0, .int .i64 2] 33 (0, 0))) := by
      have hb5 := (Below.refl w4.heap.size w4).alloc (Nat.le_refl _) (.cells #[.slice none 0 0, .int .i64 2] 33 (0, 0))
      refine ⟨(hT3.keep hb4).keep hb5, hp_new rfl, fun h => absurd rfl h, fun e => ?_, fun g off _ h => absurd rfl h, by have := b4.size; have := hA3.2.2.2; have := hb4.size; omega⟩
      have := (hT3.keep hb4).lt _ e
      omega
    have z4 : w.heap.size + 1 + 1 ≤ w4.heap.size := by have := hb4.size; have := hA3.2.2.2; omega
    have HB0 := Lib.hid hBoth
    have HN3 := Lib.hid n3
    have HP4 := Lib.hid (And.intro (hP3.keep hb4) (hA3.keep hb4))
    have HB4 := Lib.hid b4
    clear hBoth hT3 n3 hP3 hA3 hb4 b3 b1 za1 b4
    go_wp2_with fail
    go_loopw [10] (fun n wr => BothRel w (w.heap.size + 1 + 1) t w4.heap.size ls (fun W => PBox W w.heap.size p ∧ ABox W (w.heap.size + 1) a) n wr) (fun n _ => ls.length - (intOf n).toNat)
    case atStart =>
      have hb5 := (Below.refl w4.heap.size w4).alloc (Nat.le_refl _) (.cells #[.slice none 0 0, .int .i64 2] 33 (0, 0))
      exact ⟨0, S3, none, 0, Nat.zero_le _, rfl, HB0.out, Nat.le_refl _, HN3.out, HB4.out.trans (hb5.mono HB4.out.size), Nat.le_trans z4 hb5.size, HP4.out.1.keep hb5, HP4.out.2.keep hb5⟩
    case round =>
      obtain ⟨k, S, A2, c, hk, rfl, hBo, hm, hN, hB, hz, hPb, hAb⟩ := hrel
      have HO := Lib.hid hBo
      have HN := Lib.hid hN
      have HPb := Lib.hid hPb
      have HAb := Lib.hid hAb
      generalize hq : w4.heap.size = q at HO
      clear hBo hN hPb hAb HB0 HN3 HP4 HB4 hq z4
      by_cases hlt : k < ls.length
      · obtain ⟨g, off, rfl, hg, hc⟩ := HR.out (by intro e; rw [e] at hlt; cases hlt)
        obtain ⟨c0, c1, c2, c3, c4, c5⟩ := hc k hlt
        have d0 := (hB.cell (p := ⟨g, off + k * 6, none⟩) hg).trans c0
        have d1 := (hB.cell (p := ⟨g, off + k * 6 + 1, none⟩) hg).trans c1
        have d2 := (hB.cell (p := ⟨g, off + k * 6 + 2, none⟩) hg).trans c2
        have d3 := (hB.cell (p := ⟨g, off + k * 6 + 3, none⟩) hg).trans c3
        have d4 := (hB.cell (p := ⟨g, off + k * 6 + 4, none⟩) hg).trans c4
        have d5 := (hB.cell (p := ⟨g, off + k * 6 + 5, none⟩) hg).trans c5
        clear c0 c1 c2 c3 c4 c5 hc
        obtain ⟨x, hx⟩ : ∃ x, ls[k] = x := ⟨_, rfl⟩
        rw [hx] at d0 d1 d2 d3 d4 d5
        have HXX := Lib.hid hx
        clear hx
        go_wp2_with fail
        refine (do_any HO.out.T (by omega) x).mono ?_
        rintro e w6 ⟨⟨rfl, S6, g1, g2, g3⟩, g4⟩
        rw [← HXX.out] at g1 g4
        have hLL := playK_succ ls k hlt
        obtain ⟨r1, r2, r3, r4, r5, r6⟩ := play_next hlt HN.out hz (by omega) hB g1 g2 g3 g4 hm
        have hqw := lt_of_block HO.out.Q
        have hS6q : ¬ S6 q := sub_not g3 hqw HO.out.nq
        have hR6 : RdQ w6 A2 (playK ls k).1 := rdq_off HO.out.R g2 (fun g off e hn => (HO.out.ng g off e hn).1)
        have hQ6 := (g2.block q hqw HO.out.nq).trans HO.out.Q
        have hS6g : ∀ g off, A2 = some ⟨g, off, none⟩ → (playK ls k).1 ≠ [] → ¬ S6 g ∧ g ≠ q ∧ g < w6.heap.size := fun g off e hn => ⟨sub_not g3 (rdq_lt HO.out.R g off e hn) (HO.out.ng g off e hn).1, (HO.out.ng g off e hn).2, Nat.lt_of_lt_of_le (rdq_lt HO.out.R g off e hn) g2.size⟩
        have hP6 := HPb.out.frm g2 (fun e => by have := HN.out _ e; omega)
        have hA6 := HAb.out.frm g2 (fun e => by have := HN.out _ e; omega)
        have hgN : g < w.heap.size + 1 + 1 := by omega
        have e0 := (r6.cell (p := ⟨g, off + k * 6, none⟩) hgN).trans d0
        have e1 := (r6.cell (p := ⟨g, off + k * 6 + 1, none⟩) hgN).trans d1
        have e2 := (r6.cell (p := ⟨g, off + k * 6 + 2, none⟩) hgN).trans d2
        have e3 := (r6.cell (p := ⟨g, off + k * 6 + 3, none⟩) hgN).trans d3
        have e4 := (r6.cell (p := ⟨g, off + k * 6 + 4, none⟩) hgN).trans d4
        have e5 := (r6.cell (p := ⟨g, off + k * 6 + 5, none⟩) hgN).trans d5
        have hs := HO.out.T.srt
        have hMk : (playK ls k).2 ≤ 20000 := by omega
        have hl1 : (playK ls k).1.length ≤ 10000 := by
          obtain ⟨T, -, hr, hl, -⟩ := HO.out.T
          have := rep_len hr
          omega
        have hl2 : (playK ls (k + 1)).1.length ≤ 10000 := by
          obtain ⟨T, -, hr, hl, -⟩ := r1
          have := rep_len hr
          omega
        have hzq := HO.out.zq
        have hq6 : q < w6.heap.size := Nat.lt_of_lt_of_le hqw g2.size
        have hg6 : g < w6.heap.size := by have := r4.size; omega
        rw [HXX.out] at hLL
        generalize (playK ls k).1 = L at hR6 hQ6 hS6g hs hl1 hLL
        generalize (playK ls k).2 = M at hQ6 hMk hLL
        have hL1 : (playK ls (k + 1)).1 = doQ x L := by rw [hLL]
        have hM1 : (playK ls (k + 1)).2 = doM x L M := by rw [hLL]
        rw [hL1, hM1] at r1
        rw [hM1] at r2
        rw [hL1] at hl2
        have HLM := Lib.hid (And.intro hL1 hM1)
        have cd := fun (W : World) (hb : Below w6.heap.size w6 W) => did_any (c := c) (hR6.keep hb (Nat.le_refl _)) hs hl1 (most := M) (by omega) x
        have CD := Lib.hid cd
        have HT6 := Lib.hid r1
        have HN6 := Lib.hid r3
        have HQ6 := Lib.hid hQ6
        have HG6 := Lib.hid hS6g
        have HP6 := Lib.hid (And.intro hP6 hA6)
        have HR4 := Lib.hid r4
        have HNQ := Lib.hid hS6q
        obtain ⟨u0, u1, -, -, -⟩ := two hQ6
        generalize hLn : doQ x L = L' at *
        generalize hMn : doM x L M = M' at *
        have HLn := Lib.hid hLn
        have HMn := Lib.hid hMn
        clear cd r1 r3 r4 r6 hQ6 hS6g hP6 hA6 hS6q g1 g2 g3 g4 d0 d1 d2 d3 d4 d5 hL1 hM1 hLL hR6 hs HO HN HPb HAb hB hm hqw hLn hMn
        go_upto_region 10 with fail
        go_cut [12, 13] (fun b f wx => f = .int .i64 (doE x L) ∧ ∃ y A' c', b = .pointer (some ⟨y, 0, none⟩) ∧ wx.heap[y]? = some (.cells #[.slice A' L'.length c', .int .i64 (M' : Int)] 33 (0, 0)) ∧ w6.heap.size ≤ y ∧ RdQ wx A' L' ∧ (∀ g off, A' = some ⟨g, off, none⟩ → L' ≠ [] → (A' = A2 ∧ L ≠ []) ∨ w6.heap.size ≤ g) ∧ Below w6.heap.size w6 wx)
        case first =>
          go_region_held3 (fun w' => w'.cell? ⟨q, 0, none⟩ = some (.slice A2 L.length c) ∧ w'.cell? ⟨q, 1, none⟩ = some (.int .i64 (M : Int)) ∧ w'.cell? ⟨g, off + k * 6, none⟩ = some (.bool x.out) ∧ w'.cell? ⟨g, off + k * 6 + 1, none⟩ = some (.int .u64 (u x.p.a.hi)) ∧ w'.cell? ⟨g, off + k * 6 + 2, none⟩ = some (.int .u64 (u x.p.a.lo)) ∧ w'.cell? ⟨g, off + k * 6 + 3, none⟩ = some (.bool x.p.a.v6) ∧ w'.cell? ⟨g, off + k * 6 + 4, none⟩ = some (.int .i64 x.p.n) ∧ w'.cell? ⟨g, off + k * 6 + 5, none⟩ = some (.int .i64 x.v) ∧ Below w6.heap.size w6 w')
            (first | exact keep8L hk7 hq6 hg6 u0 u1 e0 e1 e2 e3 e4 e5 | (refine keep8L ?_ hq6 hg6 u0 u1 e0 e1 e2 e3 e4 e5; go_grown))
            (first | (go_at_call 8; refine (CD.out _ (by go_grown)).mono ?_; rintro e w7 ⟨A', c', rfl, hR7, hA7, hw7⟩; have hk7 := below_of (w := w6) (by go_grown) hw7; have zk7 := hk7.size; (try (have hy7 := (hw7.block w6.heap.size (by simp)).trans (hp_new rfl); obtain ⟨v0, v1, vf0, vf1, vz⟩ := two hy7))))
          · go_wp2_with fail
            go_meet
            case rel =>
              have hb9 := (Below.refl w7.heap.size w7).alloc (Nat.le_refl _) (.cells #[.slice A' (doQ x L).length c', .int .i64 ((doM x L M : Nat) : Int)] 33 (0, 0))
              rw [← HLn.out, ← HMn.out]
              exact ⟨rfl, w7.heap.size, A', c', rfl, hp_new rfl, hk7.size, hR7.keep hb9 (Nat.le_refl _), fun g off e hn => hA7 g off e hn, hk7.trans (hb9.mono hk7.size)⟩
          · go_wp2_with fail
            go_meet
            case rel =>
              rw [← HLn.out, ← HMn.out]
              have hF9 : Frm (fun b => b = w6.heap.size) w7 ((w7.setCell ⟨w6.heap.size, 0, none⟩ (.slice A' (doQ x L).length c')).setCell ⟨w6.heap.size, 1, none⟩ (.int .i64 ((doM x L M : Nat) : Int))) := ((Frm.refl (fun b => b = w6.heap.size) _).setCell (p := ⟨w6.heap.size, 0, none⟩) (.inl rfl) _).setCell (p := ⟨w6.heap.size, 1, none⟩) (.inl rfl) _
              refine ⟨rfl, w6.heap.size, A', c', rfl, row2_set hy7, Nat.le_refl _, rdq_off hR7 hF9 (fun g off e hn h => ?_), fun g off e hn => ?_, (hk7.setCell (p := ⟨w6.heap.size, 0, none⟩) (by exact Nat.le_refl _) _).setCell (p := ⟨w6.heap.size, 1, none⟩) (by exact Nat.le_refl _) _⟩
              · rcases hA7 g off e hn with ⟨e1, e2⟩ | e1
                · have := (HG6.out g off (e1 ▸ e) e2).2.2
                  omega
                · simp at e1
                  omega
              · rcases hA7 g off e hn with e1 | e1
                · exact .inl e1
                · simp at e1
                  exact .inr (by omega)
        case rest =>
          obtain ⟨rfl, y, A', c', rfl, hy, hyz, hRc, hgc, hbc⟩ := hcut
          have hQc := (hbc.block q hq6).trans HQ6.out
          obtain ⟨p0, p1, -, -, pz⟩ := two hy
          obtain ⟨q0, q1, f0, f1, qz⟩ := two hQc
          have hyq : ¬ y = q := by omega
          clear u0 u1
          go_upto_region 12 with fail
          generalize hX : World.setCell (World.setCell wc _ _) _ _ = X
          have hFq : Frm (fun b => b = q) wc X := by subst hX; exact ((Frm.refl (fun b => b = q) _).setCell (p := ⟨q, 0, none⟩) (.inl rfl) _).setCell (p := ⟨q, 1, none⟩) (.inl rfl) _
          have hgq : ∀ g off, A' = some ⟨g, off, none⟩ → L' ≠ [] → ¬ S6 g ∧ g ≠ q := fun g off e hn => by
            rcases hgc g off e hn with ⟨e1, e2⟩ | e1
            · have := HG6.out g off (e1 ▸ e) e2
              exact ⟨this.1, this.2.1⟩
            · exact ⟨fun h => by have := HT6.out.lt _ h; omega, by omega⟩
          have hTX : Trie X t S6 L' M' := by
            obtain ⟨T, h1, h2⟩ := HT6.out.keep hbc
            exact ⟨T, h1.frm hFq (fun b hb e => by subst e; exact HNQ.out hb), h2⟩
          have hBX : Both (w.heap.size + 1 + 1) t q S6 A' c' L' M' X := ⟨hTX, by subst hX; exact row2_set hQc, rdq_off hRc hFq (fun g off e hn h => (hgq g off e hn).2 h), HNQ.out, hgq, hzq⟩
          have hq1 : ¬ w.heap.size = q := by omega
          have hq2 : ¬ w.heap.size + 1 = q := by omega
          have hq3 : ¬ g = q := by omega
          have hPX := (HP6.out.1.keep hbc).frm hFq hq1
          have hAX := (HP6.out.2.keep hbc).frm hFq hq2
          have hbX : Below w.heap.size w X := (HR4.out.trans (hbc.mono (by have := HR4.out.size; omega))).trans (hFq.below (B := w.heap.size) (fun b e => by subst e; omega) (by omega))
          have hX6 : ∀ o v, w6.cell? ⟨g, o, none⟩ = some v → X.cell? ⟨g, o, none⟩ = some v := fun o v h => (hFq.cell (p := ⟨g, o, none⟩) (by have := hbc.size; simp only; omega) hq3).trans ((hbc.cell (p := ⟨g, o, none⟩) hg6).trans h)
          have s1 := hX6 _ _ e1
          have s2 := hX6 _ _ e2
          have s3 := hX6 _ _ e3
          have s4 := hX6 _ _ e4
          have hNX : w.heap.size + 1 + 1 ≤ X.heap.size := by have := hbX.size; have := hAX.2.2.2; omega
          obtain ⟨n0, n1, -, -, nz⟩ := two hBX.Q
          obtain ⟨pa, pb, pc, pg, -, -, -, -, pz9⟩ := id hPX
          obtain ⟨aa, ab, ac, az9⟩ := id hAX
          have hgX : g < X.heap.size := by have := hbX.size; omega
          have L0 := fun z : Later X.heap.size X => (z.cell (p := ⟨q, 0, none⟩) nz).trans n0
          have L1 := fun z : Later X.heap.size X => (z.cell (p := ⟨q, 1, none⟩) nz).trans n1
          have K1 := fun z : Later X.heap.size X => (z.cell (p := ⟨g, off + k * 6 + 1, none⟩) hgX).trans s1
          have K2 := fun z : Later X.heap.size X => (z.cell (p := ⟨g, off + k * 6 + 2, none⟩) hgX).trans s2
          have K3 := fun z : Later X.heap.size X => (z.cell (p := ⟨g, off + k * 6 + 3, none⟩) hgX).trans s3
          have K4 := fun z : Later X.heap.size X => (z.cell (p := ⟨g, off + k * 6 + 4, none⟩) hgX).trans s4
          have P0 := fun z : Later X.heap.size X => (z.cell (p := ⟨w.heap.size, 0, none⟩) pz9).trans pa
          have P1 := fun z : Later X.heap.size X => (z.cell (p := ⟨w.heap.size, 1, none⟩) pz9).trans pb
          have P2 := fun z : Later X.heap.size X => (z.cell (p := ⟨w.heap.size, 2, none⟩) pz9).trans pc
          have P3 := fun z : Later X.heap.size X => (z.cell (p := ⟨w.heap.size, 3, none⟩) pz9).trans pg
          have A0 := fun z : Later X.heap.size X => (z.cell (p := ⟨w.heap.size + 1, 0, none⟩) az9).trans aa
          have A1 := fun z : Later X.heap.size X => (z.cell (p := ⟨w.heap.size + 1, 1, none⟩) az9).trans ab
          have A2' := fun z : Later X.heap.size X => (z.cell (p := ⟨w.heap.size + 1, 2, none⟩) az9).trans ac
          have hsm := fun (z : Later X.heap.size X) (p' : Pf) (a' : Ad) => same_any (c := c') (hBX.keep z.below).T (hBX.keep z.below).R hl2 p' a'
          have HSM := Lib.hid hsm
          have HBX := Lib.hid hBX
          have HPX := Lib.hid (And.intro hPX hAX)
          have tE : (doE x L != doE x L) = false := by simp
          clear hX hFq hgq hTX hBX hsm hPX hAX hX6 n0 n1 s1 s2 s3 s4 pa pb pc pg aa ab ac p0 p1 q0 q1 f0 f1 hy hQc hRc hgc e0 e1 e2 e3 e4 e5 HT6 HQ6 HG6 HP6 HNQ CD
          refine region_later X.heap.size (by kernel_rfl) (by kernel_rfl) ?_
          repeat (go_big_quiet_step (first | (go_at_call 9; with_reducible exact later_of (Nat.le_refl _) (HSM.out _ x.p x.p.a)) | (go_at_call 9; with_reducible exact later_of (Nat.le_refl _) (HSM.out _ p a))))
          refine wpQuiet_nil ?_
          intro z
          have hbz := z.below
          clear L0 L1 K1 K2 K3 K4 P0 P1 P2 P3 A0 A1 A2' HSM
          generalize z.at = Z at hbz ⊢
          clear z
          go_wp2_with fail
          refine ⟨⟨k + 1, S6, A', c', by omega, by go_num, by rw [HLM.out.1, HLM.out.2]; exact HBX.out.keep hbz, by rw [HLM.out.2]; omega, HN6.out, hbX.trans (hbz.mono hbX.size), Nat.le_trans hNX hbz.size, HPX.out.1.keep hbz, HPX.out.2.keep hbz⟩, by simp [intOf]; omega⟩
      · have hke : k = ls.length := by omega
        have t1 : decide (k < ls.length) = false := by simp; omega
        have hl1 : (playK ls k).1.length ≤ 10000 := by
          obtain ⟨T, -, hr, hl, -⟩ := HO.out.T
          have := rep_len hr
          omega
        generalize (playK ls k).1 = L at HO hl1
        generalize (playK ls k).2 = M at HO
        obtain ⟨u0, u1, -, -, uz⟩ := two HO.out.Q
        obtain ⟨W, rfl⟩ : ∃ W, W = wr := ⟨_, rfl⟩
        have ca := fun (V : World) (hb : Below W.heap.size W V) => all_any (HO.out.keep hb).T
        have CA := Lib.hid ca
        have cr := fun (V : World) (hb : Below W.heap.size W V) => (HO.out.keep hb).R
        have CR := Lib.hid cr
        have hLb : L.length ≤ 1000000000 := by omega
        clear ca cr HN HPb HAb HR hke HO
        go_wp2_with fail
        go_region_held3 (fun w' => w'.cell? ⟨q, 0, none⟩ = some (.slice A2 L.length c) ∧ w'.cell? ⟨q, 1, none⟩ = some (.int .i64 (M : Int)) ∧ Below W.heap.size W w')
          (first | exact keepu2 hkc uz u0 u1 | exact keepu2 hkb uz u0 u1 | exact keepu2 hka uz u0 u1 | (refine keepu2 ?_ uz u0 u1; go_grown))
          (first
            | (go_at_call 12; refine (CA.out _ (by go_grown)).mono ?_; rintro e wa ⟨va, rfl, ha, hw⟩; have hka := below_of (w := W) (by go_grown) hw; clear hw; have HVA := Lib.hid ha; clear ha)
            | (go_at_call 11; refine (pairs_any _ _ L _ HVA.out hLb).mono ?_; rintro e wb ⟨vb, rfl, hb, hw⟩; have hkb := hka.trans (hw.mono hka.size); have HVB := Lib.hid hb; clear hb hw)
            | (go_at_call 10; refine (pairs_rd _ _ _ _ L _ HVB.out (CR.out _ hkb) hLb).mono ?_; rintro e wc ⟨rfl, hw⟩; have hkc := hkb.trans (hw.mono hkb.size); clear hw))
        all_goals
          go_wp2
          go_ret
          exact ⟨rfl, hB.trans (hkc.mono hB.size)⟩

end Go.Proofs.Ytkgjogkbdkdogaa

namespace Go.Proofs.Ytkgjogkbdkdogaa
open Go.ChangeShapes Go.WideShapes Go.ChangeAt Go.RowKit

set_option maxRecDepth 100000 in
theorem triePlays_lifted (os : Os) (started : os.Started) (H : Type) (enc : TypeId × Value → H) :
    ReturnsInHanded {} Try.checked os 3 .any (Rows.triePlaysSpec.pre6 enc Try.prog Try.f3 Rows.triePlaysRow.domain false) (Rows.triePlaysSpec.post enc Try.prog Try.f3 false true false false) := by
  refine returnsInHanded_of_change (C := Try.checked) own started (by kernel_rfl) Try.func3
    (ChangeSpec.witness6 (enc := enc) (C := Try.checked) false ⟨#[], #[.slice none 0 0, .agg #[.int .u64 0, .int .u64 0, .bool false, .int .i64 0], .agg #[.int .u64 0, .int .u64 0, .bool false]], []⟩ 8 (by kernel_rfl) (by kernel_rfl) (by kernel_rfl) (by kernel_rfl)) ?_
  intro W base args ds gs before hval0 hW hcnd _
  have hval : ∀ (j : Nat) t v, Try.f3.params[j]? = some t → args[j]? = some v → Value.okWide Try.prog W .any base t v := hval0
  have hW' := hW
  obtain ⟨p, q, hA0, hV, rfl, hfz, hnd⟩ := hW
  have hA : DataW.TrodAll enc Try.prog W 0 (fun _ => true) true Try.f3.params.toList args.toList ds p := hA0
  rw [Try.params3] at hA hval
  obtain ⟨v0, vs0, d0, ds0, p0, q0, hargs, rfl, rfl, h0, r0⟩ := trodAll_cons hA
  obtain ⟨v1, vs1, d1, ds1, p1, q1, rfl, rfl, rfl, h1, r1⟩ := trodAll_cons r0
  obtain ⟨v2, vs2, d2, ds2, p2, q2, rfl, rfl, rfl, h2, r2⟩ := trodAll_cons r1
  obtain ⟨rfl, rfl, rfl⟩ := trodAll_nil r2
  obtain rfl : args = #[v0, v1, v2] := by cases args; simp_all
  obtain ⟨rfl, rfl⟩ := trodVars_none hV
  have lt0 : ∀ x ∈ p0, x.block < W.heap.size := by obtain ⟨m, hm⟩ := h0; exact DataW.trod_lt m _ _ _ hm
  obtain ⟨A0, cap0, l0, rfl, w0⟩ := open_acs (hval 0 22 v0 rfl rfl) h0 (fun _ => rfl)
  have lt1 : ∀ x ∈ p1, x.block < W.heap.size := by obtain ⟨m, hm⟩ := h1; exact DataW.trod_lt m _ _ _ hm
  obtain ⟨a1, rfl, w1⟩ := open_pf (hval 1 27 v1 rfl rfl) h1
  have lt2 : ∀ x ∈ p2, x.block < W.heap.size := by obtain ⟨m, hm⟩ := h2; exact DataW.trod_lt m _ _ _ hm
  obtain ⟨a2, rfl⟩ := open_ad (hval 2 25 v2 rfl rfl) h2
  clear hA0 hval0
  refine (plays_law A0 cap0 l0 a1 a2 W w0).mono fun e W' ⟨he, bel⟩ => ?_
  subst he
  exact ⟨_, rfl, _, _, _, [], _, [], hW', trodAll_mk1 (shut_bool Try.underlying4 _), (trodAll_cons_mk (Below.trod laidOut (by kernel_rfl) (of_decide_eq_true (by kernel_rfl)) h0 bel lt0) (trodAll_cons_mk (Below.trod laidOut (by kernel_rfl) (of_decide_eq_true (by kernel_rfl)) h1 bel lt1) (trodAll_cons_mk (Below.trod laidOut (by kernel_rfl) (of_decide_eq_true (by kernel_rfl)) h2 bel lt2) trodAll_mk0))), rfl, bel.frame _, fun h => by cases h⟩

theorem triePlays_holds : Rows.TriePlaysSaid :=
  OpenClaim.holds_of_wide 3 Try.f3 rfl rfl rfl rfl rfl rfl rfl ⟨rfl, rfl, rfl, rfl, rfl⟩ rfl rfl rfl rfl rfl (by kernel_rfl) Try.func3 (by kernel_rfl)
    (of_decide_eq_true (by kernel_rfl)) (by unfold Func.isWrapper; first | (rw [if_pos (by decide +kernel)]; kernel_rfl) | (rw [if_neg (by decide +kernel)]; exact ⟨rfl, rfl⟩))
    (fun os started H enc _ => triePlays_lifted os started H enc)

end Go.Proofs.Ytkgjogkbdkdogaa
