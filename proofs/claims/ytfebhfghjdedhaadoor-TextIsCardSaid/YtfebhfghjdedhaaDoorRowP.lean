/-
  How a prefix that comes in is read: what the rows of layer 2 want. No condition.
-/
import Derived.Test.YtfebhfghjdedhaaDoorRow
import Derived.Test.YtfebhfghjdedhaaDoorPf
import Derived.Deep.Strs
namespace Go.Proofs.YtfebhfghjdedhaaDoor
set_option maxRecDepth 100000
open Go.ChangeShapes Go.WideShapes Go.ChangeAt Go.RowKit Go.Joins Go.Deep

theorem open_pf {H : Type} {enc : TypeId × Value → H} {W : World} {base b0 : Nat} {spare : Nat → Bool} {held : Bool} {r : Reach} {v : Value} {d : DataW H} {p : List MemPlace}
    (hv : Value.okWide Tryd.prog W r b0 26 v) (h : DataW.Trod enc Tryd.prog W base spare held 26 v d p) :
    ∃ a : Pf, v = .agg #[.int .u64 (u a.a.hi), .int .u64 (u a.a.lo), .bool a.a.v6, .int .i64 a.n] ∧ (Lit.int IntKind.i64 a.n).wf = true := by
  obtain ⟨cs, rfl, hsz⟩ := okWide_struct Tryd.underlying26 hv
  obtain ⟨c0, c1, c2, c3, rfl⟩ := array4 (hsz.trans (by kernel_rfl))
  obtain ⟨fuel, hf⟩ := h
  obtain ⟨y0, y1, n, hx, _, h0, h1⟩ := trod_struct2 Tryd.underlying26 hf
  have k0 : Tryd.prog.cellsOf 24 = 3 := by kernel_rfl
  have k1 : Tryd.prog.cellsOf 3 = 1 := by kernel_rfl
  have g0 : DataW.trod enc Tryd.prog W base spare held n 24 [c0, c1, c2] = some y0 := by simpa [Value.cells, k0] using h0
  have g1 : DataW.trod enc Tryd.prog W base spare held n 3 [c3] = some y1 := by simpa [Value.cells, k1] using h1
  obtain ⟨z0, z1, z2, m, hz, _, i0, i1, i2⟩ := trod_struct3 Tryd.underlying24 g0
  have k2 : Tryd.prog.cellsOf 22 = 1 := by kernel_rfl
  have k3 : Tryd.prog.cellsOf 4 = 1 := by kernel_rfl
  have j0 : DataW.trod enc Tryd.prog W base spare held m 22 [c0] = some z0 := by simpa [k2] using i0
  have j1 : DataW.trod enc Tryd.prog W base spare held m 22 [c1] = some z1 := by simpa [k2] using i1
  have j2 : DataW.trod enc Tryd.prog W base spare held m 4 [c2] = some z2 := by simpa [k3] using i2
  obtain ⟨x0, e0, _, w0⟩ := DataW.trod_int Tryd.underlying22 j0
  obtain ⟨x1, e1, _, w1⟩ := DataW.trod_int Tryd.underlying22 j1
  obtain ⟨x2, e2, _⟩ := DataW.trod_bool Tryd.underlying4 j2
  obtain ⟨x3, e3, _, w3⟩ := DataW.trod_int Tryd.underlying3 g1
  obtain ⟨lo0, hi0⟩ := bounds_u64 w0
  obtain ⟨lo1, hi1⟩ := bounds_u64 w1
  obtain ⟨a0, rfl⟩ := u_of x0 lo0 (by omega)
  obtain ⟨a1, rfl⟩ := u_of x1 lo1 (by omega)
  simp at e0 e1 e2 e3
  subst e0 e1 e2 e3
  exact ⟨⟨⟨a0, a1, x2⟩, x3⟩, rfl, w3⟩

end Go.Proofs.YtfebhfghjdedhaaDoor
