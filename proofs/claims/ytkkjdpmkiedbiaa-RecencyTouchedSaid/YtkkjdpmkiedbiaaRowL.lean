/-
  How a list of numbers that comes in is read. No condition.
-/
import Derived.Test.YtkkjdpmkiedbiaaRowK
import Derived.Test.YtkkjdpmkiedbiaaNm
namespace Go.Proofs.Ytkkjdpmkiedbiaa
set_option maxRecDepth 100000
open Go.ChangeShapes Go.WideShapes Go.ChangeAt Go.RowKit Go.Joins Go.Deep

theorem int_cells1 {H : Type} {enc : TypeId × Value → H} {W : World} {base n : Nat} {spare : Nat → Bool} {held : Bool} {cs : List Value} {x : DataW H × List MemPlace}
    (hl : cs.length = 1) (h : DataW.trod enc Try.prog W base spare held n 3 cs = some x) : ∃ r : Int, cs = KI.enc r := by
  match cs, hl with
  | [c0], _ =>
  obtain ⟨x1, e1, _, w1⟩ := DataW.trod_int Try.underlying3 h
  simp at e1
  subst e1
  exact ⟨x1, rfl⟩
theorem open_ints {H : Type} {enc : TypeId × Value → H} {W : World} {base b0 : Nat} {spare : Nat → Bool} {held : Bool} {r : Reach} {v : Value} {d : DataW H} {p : List MemPlace}
    (hv : Value.okWide Try.prog W r b0 26 v) (h : DataW.Trod enc Try.prog W base spare held 26 v d p) (_ : ∀ b, spare b = true) :
    ∃ A c rs, v = .slice A (List.length rs) c ∧ KI.Rd W A rs :=
  KI.opened 0 Try.underlying26 (by kernel_rfl) (fun hl h => int_cells1 hl h) hv h

end Go.Proofs.Ytkkjdpmkiedbiaa
