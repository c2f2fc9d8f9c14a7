/-
  How a list of entries that comes in is read. No condition.
-/
import Derived.Test.YtmmggalcebepeaaRowK
import Derived.Test.YtmmggalcebepeaaNc
namespace Go.Proofs.Ytmmggalcebepeaa
set_option maxRecDepth 100000
open Go.ChangeShapes Go.WideShapes Go.ChangeAt Go.RowKit Go.Joins Go.Deep

theorem ent_cells {H : Type} {enc : TypeId × Value → H} {W : World} {base n : Nat} {spare : Nat → Bool} {held : Bool} {cs : List Value} {x : DataW H × List MemPlace}
    (hl : cs.length = 2) (h : DataW.trod enc Try.prog W base spare held n 38 cs = some x) : ∃ r : Ent, cs = KE.enc r := by
  match cs, hl with
  | [c0, c1], _ =>
  obtain ⟨y0, y1, m, hx, _, h0, h1⟩ := trod_struct2 Try.underlying38 h
  have k1 : Try.prog.cellsOf 3 = 1 := by kernel_rfl
  have g0 : DataW.trod enc Try.prog W base spare held m 3 [c0] = some y0 := by simpa [k1] using h0
  have g1 : DataW.trod enc Try.prog W base spare held m 3 [c1] = some y1 := by simpa [k1] using h1
  obtain ⟨x0, e0, _, w0⟩ := DataW.trod_int Try.underlying3 g0
  obtain ⟨x1, e1, _, w1⟩ := DataW.trod_int Try.underlying3 g1
  simp at e0 e1
  subst e0 e1
  exact ⟨⟨x0, x1⟩, rfl⟩
theorem open_ents {H : Type} {enc : TypeId × Value → H} {W : World} {base b0 : Nat} {spare : Nat → Bool} {held : Bool} {r : Reach} {v : Value} {d : DataW H} {p : List MemPlace}
    (hv : Value.okWide Try.prog W r b0 22 v) (h : DataW.Trod enc Try.prog W base spare held 22 v d p) (_ : ∀ b, spare b = true) :
    ∃ A c rs, v = .slice A (List.length rs) c ∧ (KE.Rd W A rs ∧ (A = none → rs = [] ∧ c = 0)) := by
  obtain ⟨A, c, rs, rfl, hrd⟩ := KE.opened ⟨0, 0⟩ Try.underlying22 (by kernel_rfl) (fun hl h => ent_cells hl h) hv h
  refine ⟨A, c, rs, rfl, hrd, ?_⟩
  rintro rfl
  obtain ⟨fuel, hf⟩ := h
  rcases open_slice Try.underlying22 hf with ⟨hcs, _⟩ | ⟨a, l, c, m, n, D, Pl, hcs, _⟩
  · simp [Value.cells] at hcs
    exact ⟨hcs.1, hcs.2⟩
  · simp [Value.cells] at hcs

end Go.Proofs.Ytmmggalcebepeaa
