/-
  How a list of elements of whatever kind that comes in is read. No condition.
-/
import Derived.Test.YtmmggalcebepeaaRow
import Derived.Test.YtmmggalcebepeaaRk
import Derived.Deep.Slices
namespace Go.Proofs.Ytmmggalcebepeaa
set_option maxRecDepth 100000
open Go.ChangeShapes Go.WideShapes Go.ChangeAt Go.RowKit Go.Joins Go.Deep

theorem add_plainK (g off j : Nat) : (⟨g, off, none⟩ : Addr).add j = ⟨g, off + j, none⟩ := by unfold Addr.add; split <;> simp_all
theorem Kd.opened {α H : Type} (K : Kd α) (z : α) {enc : TypeId × Value → H} {E SL : TypeId} (hu : Try.prog.underlying SL = some (.slice E)) (hk : Try.prog.cellsOf E = K.k) {W : World} {base b0 : Nat} {spare : Nat → Bool} {held : Bool} {r : Reach} {v : Value} {d : DataW H} {p : List MemPlace}
    (dec : ∀ {n : Nat} {cs : List Value} {x : DataW H × List MemPlace}, cs.length = K.k → DataW.trod enc Try.prog W base spare held n E cs = some x → ∃ y : α, cs = K.enc y)
    (hv : Value.okWide Try.prog W r b0 SL v) (h : DataW.Trod enc Try.prog W base spare held SL v d p) :
    ∃ A c rs, v = .slice A (List.length rs) c ∧ K.Rd W A rs := by
  obtain ⟨A, len, cap, rfl⟩ := okWide_slice hu hv
  obtain ⟨fuel, hf⟩ := h
  rcases open_slice hu hf with ⟨hcs, _⟩ | ⟨a, l, c, m, n, D, Pl, hcs, _, hl, hm, hmm, _, hi⟩
  · simp [Value.cells] at hcs
    obtain ⟨rfl, rfl, rfl⟩ := hcs
    exact ⟨none, 0, [], rfl, fun h => absurd rfl h⟩
  · simp [Value.cells] at hcs
    obtain ⟨rfl, rfl, rfl⟩ := hcs
    have hlm : len ≤ m := by rw [hmm]; split <;> omega
    have key : ∀ i, i < len → ∃ y : α, ∀ j x, (K.enc y)[j]? = some x → W.cell? (a.add (i * K.k + j)) = some x := by
      intro i hlt
      obtain ⟨cs', hc, ht⟩ := hi i (by omega)
      rw [hk] at hc
      obtain ⟨_, hcl, hat⟩ := World.cells?_some hc
      obtain ⟨y, rfl⟩ := dec hcl ht
      refine ⟨y, fun j x hx => ?_⟩
      have hj : j < K.k := by
        rcases Nat.lt_or_ge j K.k with h1 | h1
        · exact h1
        · rw [List.getElem?_eq_none (by rw [K.len]; omega)] at hx; cases hx
      rw [← Go.Deep.add_add, hat j hj, hx]
    have hch : ∃ f : Nat → α, ∀ i, i < len → ∀ j x, (K.enc (f i))[j]? = some x → W.cell? (a.add (i * K.k + j)) = some x :=
      ⟨fun i => if h : i < len then (key i h).choose else z, fun i hlt j x hx => (key i hlt).choose_spec j x (by simpa [hlt] using hx)⟩
    obtain ⟨f, hf2⟩ := hch
    refine ⟨some a, cap, (List.range len).map f, by simp, fun hne => ?_⟩
    have hpos : 0 < len := by
      rcases Nat.eq_zero_or_pos len with h0 | h0
      · rw [h0] at hne; simp at hne
      · exact h0
    have hc0 : ∃ x, (K.enc (f 0))[0]? = some x := ⟨_, List.getElem?_eq_getElem (by rw [K.len]; exact K.pos)⟩
    obtain ⟨x0, hx0⟩ := hc0
    obtain ⟨g, off, spot⟩ := a
    have hspot : spot = none := by
      have := hf2 0 hpos 0 _ hx0
      rw [show 0 * K.k + 0 = 0 from by omega] at this
      simpa [Addr.add] using World.cell?_spot this
    subst hspot
    have hcell : ∀ i, i < len → ∀ j x, (K.enc (f i))[j]? = some x → W.cell? ⟨g, off + i * K.k + j, none⟩ = some x := fun i hlt j x hx => by
      have := hf2 i hlt j x hx
      rw [add_plainK, ← Nat.add_assoc] at this
      exact this
    refine ⟨g, off, rfl, World.block_lt_of_cell? W ⟨g, off + 0 * K.k + 0, none⟩ (hcell 0 hpos 0 _ hx0), fun i hlt j hj => ?_⟩
    have hlt' : i < len := by simpa using hlt
    have e : ((List.range len).map f)[i] = f i := by simp
    rw [e, List.getElem?_eq_getElem (by rw [K.len]; exact hj)]
    exact hcell i hlt' j _ (List.getElem?_eq_getElem (by rw [K.len]; exact hj))

end Go.Proofs.Ytmmggalcebepeaa
