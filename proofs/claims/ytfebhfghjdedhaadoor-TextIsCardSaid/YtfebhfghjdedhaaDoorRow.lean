/-
  How an address that comes in is read: what every row's proof of this seat wants. No condition.
-/
import Derived.Test.YtfebhfghjdedhaaDoorRows
import Derived.Test.YtfebhfghjdedhaaDoorAd
import Derived.ProofKit
import Derived.OpenShut
import Derived.ChangeOld
import Derived.Lib.SmallJoins
namespace Go.Proofs.YtfebhfghjdedhaaDoor
open Go.ChangeShapes Go.WideShapes Go.ChangeAt Go.RowKit Go.Joins
set_option maxRecDepth 100000

theorem own : ownKnob Tryd.prog.godebug = none := by kernel_rfl
theorem laidOut : laidOutB Tryd.prog = true := by kernel_rfl

theorem open_ad {H : Type} {enc : TypeId × Value → H} {W : World} {base b0 : Nat} {spare : Nat → Bool} {held : Bool} {r : Reach} {v : Value} {d : DataW H} {p : List MemPlace}
    (hv : Value.okWide Tryd.prog W r b0 24 v) (h : DataW.Trod enc Tryd.prog W base spare held 24 v d p) :
    ∃ a : Ad, v = .agg #[.int .u64 (u a.hi), .int .u64 (u a.lo), .bool a.v6] := by
  obtain ⟨c0, c1, c2, y0, y1, y2, m, rfl, rfl, rfl, h0, h1, h2⟩ := open_agg3 Tryd.underlying24 (by kernel_rfl) (by kernel_rfl) hv h
  obtain ⟨x0, e0, _, w0⟩ := DataW.trod_int Tryd.underlying22 h0
  obtain ⟨x1, e1, _, w1⟩ := DataW.trod_int Tryd.underlying22 h1
  obtain ⟨x2, e2, _⟩ := DataW.trod_bool Tryd.underlying4 h2
  obtain ⟨lo0, hi0⟩ := bounds_u64 w0
  obtain ⟨lo1, hi1⟩ := bounds_u64 w1
  obtain ⟨a0, rfl⟩ := u_of x0 lo0 (by omega)
  obtain ⟨a1, rfl⟩ := u_of x1 lo1 (by omega)
  simp at e0 e1 e2
  subst e0 e1 e2
  exact ⟨⟨a0, a1, x2⟩, rfl⟩

/-- A list of bytes that comes in: nil; or a row of cells that fit. -/
def IsBytes (w : World) (A : Option Addr) (len cap : Nat) (zs : List Int) : Prop :=
  (A = none ∧ len = 0 ∧ cap = 0 ∧ zs = []) ∨
  ∃ x, A = some x ∧ len ≤ cap ∧ cap ≤ maxLen ∧ zs.length = cap ∧ (∀ i, i < zs.length → w.cell? (x.add i) = some (.int .u8 (zs.getD i 0))) ∧ ∀ n ∈ zs, 0 ≤ n ∧ n < 256
theorem open_bytes {H : Type} {enc : TypeId × Value → H} {W : World} {base b0 : Nat} {spare : Nat → Bool} {held : Bool} {r : Reach} {v : Value} {d : DataW H} {p : List MemPlace}
    (hv : Value.okWide Tryd.prog W r b0 36 v) (h : DataW.Trod enc Tryd.prog W base spare held 36 v d p) (hs : ∀ b, spare b = true) :
    ∃ A len cap zs, v = .slice A len cap ∧ IsBytes W A len cap zs := by
  obtain ⟨A, len, cap, rfl⟩ := okWide_slice Tryd.underlying36 hv
  obtain ⟨fuel, hf⟩ := h
  rcases open_ints Tryd.underlying36 Tryd.underlying5 (by kernel_rfl) hf with ⟨hcs, _⟩ | ⟨x, l, c, zs, hcs, _, hl, hm, hz, _, hcell, hwz⟩
  · simp [Value.cells] at hcs
    obtain ⟨rfl, rfl, rfl⟩ := hcs
    exact ⟨none, 0, 0, [], rfl, .inl ⟨rfl, rfl, rfl, rfl⟩⟩
  · simp [Value.cells] at hcs
    obtain ⟨rfl, rfl, rfl⟩ := hcs
    refine ⟨some x, len, cap, zs, rfl, .inr ⟨x, rfl, hl, hm, by simpa [hs] using hz, hcell, fun n hn => ?_⟩⟩
    obtain ⟨lo, hi⟩ := bounds_u8 (hwz n hn)
    omega

end Go.Proofs.YtfebhfghjdedhaaDoor
