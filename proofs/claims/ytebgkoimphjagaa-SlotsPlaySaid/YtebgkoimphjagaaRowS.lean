/-
  How a list of things done with places that comes in is read. No condition.
-/
import Derived.Test.YtebgkoimphjagaaRowK
namespace Go.Proofs.Ytebgkoimphjagaa
set_option maxRecDepth 100000
open Go.ChangeShapes Go.WideShapes Go.ChangeAt Go.RowKit Go.Joins Go.Deep

/-- A thing done. -/
structure Ac9 where
  what : Int
  i : Int
  x : Int
def ac9E (a : Ac9) : List Value := [.int .i64 a.what, .int .i64 a.i, .int .i64 a.x]
def KA9 : Kd Ac9 := ⟨ac9E, 3, by decide, fun _ => rfl, fun x u h => by simp [ac9E] at h; rcases h with rfl | rfl | rfl <;> rfl⟩
theorem ac9_cells {H : Type} {enc : TypeId × Value → H} {W : World} {base n : Nat} {spare : Nat → Bool} {held : Bool} {cs : List Value} {x : DataW H × List MemPlace}
    (hl : cs.length = 3) (h : DataW.trod enc Try.prog W base spare held n 32 cs = some x) : ∃ r : Ac9, cs = KA9.enc r := by
  match cs, hl with
  | [c0, c1, c2], _ =>
  obtain ⟨y0, y1, y2, m, hx, _, h0, h1, h2⟩ := trod_struct3 Try.underlying32 h
  have k1 : Try.prog.cellsOf 3 = 1 := by kernel_rfl
  have g0 : DataW.trod enc Try.prog W base spare held m 3 [c0] = some y0 := by simpa [k1] using h0
  have g1 : DataW.trod enc Try.prog W base spare held m 3 [c1] = some y1 := by simpa [k1] using h1
  have g2 : DataW.trod enc Try.prog W base spare held m 3 [c2] = some y2 := by simpa [k1] using h2
  obtain ⟨x0, e0, _, w0⟩ := DataW.trod_int Try.underlying3 g0
  obtain ⟨x1, e1, _, w1⟩ := DataW.trod_int Try.underlying3 g1
  obtain ⟨x2, e2, _, w2⟩ := DataW.trod_int Try.underlying3 g2
  simp at e0 e1 e2
  subst e0 e1 e2
  exact ⟨⟨x0, x1, x2⟩, rfl⟩
theorem open_acs9 {H : Type} {enc : TypeId × Value → H} {W : World} {base b0 : Nat} {spare : Nat → Bool} {held : Bool} {r : Reach} {v : Value} {d : DataW H} {p : List MemPlace}
    (hv : Value.okWide Try.prog W r b0 22 v) (h : DataW.Trod enc Try.prog W base spare held 22 v d p) (_ : ∀ b, spare b = true) :
    ∃ A c rs, v = .slice A (List.length rs) c ∧ KA9.Rd W A rs :=
  KA9.opened ⟨0, 0, 0⟩ Try.underlying22 (by kernel_rfl) (fun hl h => ac9_cells hl h) hv h

end Go.Proofs.Ytebgkoimphjagaa
