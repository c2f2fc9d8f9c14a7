/-
  What Set, Mask, Fill and Next of the document's answer for layer 1 return. No condition.
-/
import Derived.Test.YtfebhfghjdedhaaDoorRefE
namespace Go.Proofs.YtfebhfghjdedhaaDoor
open Go.RowKit

theorem Row.set {w : World} {g n : Nat} {f : Nat → Int} (h : Row w g n f) (k : Nat) (v : Int) (hk : k < n) : Row (w.setCell ⟨g, k, none⟩ (.int .i64 v)) g n (fun j => if j = k then v else f j) := by
  refine ⟨by simpa using h.1, fun j hj => ?_, fun j => by rw [World.frozen?_setCell]; exact h.2.2 j⟩
  by_cases e : j = k
  · subst e
    rw [World.cell?_setCell_same _ _ _ (h.2.1 j hj)]
    simp
  · rw [World.cell?_setCell_other _ _ _ _ (fun e' => e (by injection e' with _ e'; exact e'.symm)), h.2.1 j hj]
    simp [e]
theorem Row.congr {w : World} {g n : Nat} {f f' : Nat → Int} (h : Row w g n f) (he : ∀ j, j < n → f j = f' j) : Row w g n f' :=
  ⟨h.1, fun j hj => by rw [h.2.1 j hj, he j hj], h.2.2⟩
theorem of_row (a : Ad) (g c : Nat) (dl : Nat → Int) (w : World) (h : Row w g (wd a.v6) dl) (hb : ∀ j, j < wd a.v6 → 0 ≤ dl j ∧ dl j ≤ 1) :
    Calls Tryd.prog 61 #[.slice (some ⟨g, 0, none⟩) (wd a.v6) c] w fun e w' => e = .returned (.agg #[.int .u64 (u (ofv dl a.v6).hi), .int .u64 (u (ofv dl a.v6).lo), .bool (ofv dl a.v6).v6]) ∧ Below w.heap.size w w' :=
  of_any a.v6 g c dl w h.1 h.2.1 hb
theorem raw_bd (a : Ad) (j : Nat) (h : j < wd a.v6) : 0 ≤ rawv a j ∧ rawv a j ≤ 1 := rawv_bd a j (by have := wd_lb a.v6; omega)

theorem Box.far {wr : World} {b g k : Nat} {x : Ad} {v : Value} (h : Box wr b x) (hne : g ≠ b) : Box (wr.setCell ⟨g, k, none⟩ v) b x := by
  obtain ⟨h1, h2, h3, h4, h5, h6, h7⟩ := h
  refine ⟨?_, ?_, ?_, ?_, ?_, ?_, ?_⟩
  · rw [World.cell?_setCell_far _ _ _ _ hne]; exact h1
  · rw [World.cell?_setCell_far _ _ _ _ hne]; exact h2
  · rw [World.cell?_setCell_far _ _ _ _ hne]; exact h3
  · rw [World.frozen?_setCell]; exact h4
  · rw [World.frozen?_setCell]; exact h5
  · rw [World.frozen?_setCell]; exact h6
  · simpa using h7
theorem Box.on {w w' : World} {b : Nat} {x : Ad} (h : Box w b x) (hb : Below w.heap.size w w') : Box w' b x := by
  obtain ⟨h1, h2, h3, h4, h5, h6, h7⟩ := h
  exact cells3 hb h7 h1 h2 h3 h4 h5 h6
/-- No address. -/
def nil : Ad := ⟨0#64, 0#64, false⟩

end Go.Proofs.YtfebhfghjdedhaaDoor
