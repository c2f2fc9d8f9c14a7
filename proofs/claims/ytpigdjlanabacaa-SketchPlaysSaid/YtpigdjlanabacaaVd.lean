/-
  What then, Get, getHop and GetRoute of package wire return. Condition: the bytes lie where the argument says.
-/
import Derived.Test.YtpigdjlanabacaaVc
import Derived.Test.YtpigdjlanabacaaPbx
import Derived.Deep.DeepCutAuto
namespace Go.Proofs.Ytpigdjlanabacaa
open Go.RowKit

theorem y4_then {G : Prop} {W w1 : World} {b : Nat} {c0 c1 c2 c3 : Value} (hb : Below W.heap.size W w1) (hlt : b < W.heap.size) (h0 : W.cell? ⟨b, 0, none⟩ = some c0) (h1 : W.cell? ⟨b, 1, none⟩ = some c1) (h2 : W.cell? ⟨b, 2, none⟩ = some c2) (h3 : W.cell? ⟨b, 3, none⟩ = some c3)
    (f0 : W.frozen? ⟨b, 0, none⟩ = false) (f1 : W.frozen? ⟨b, 1, none⟩ = false) (f2 : W.frozen? ⟨b, 2, none⟩ = false) (f3 : W.frozen? ⟨b, 3, none⟩ = false)
    (k : w1.cell? ⟨b, 0, none⟩ = some c0 ∧ w1.cell? ⟨b, 1, none⟩ = some c1 ∧ w1.cell? ⟨b, 2, none⟩ = some c2 ∧ w1.cell? ⟨b, 3, none⟩ = some c3 ∧
      w1.frozen? ⟨b, 0, none⟩ = false ∧ w1.frozen? ⟨b, 1, none⟩ = false ∧ w1.frozen? ⟨b, 2, none⟩ = false ∧ w1.frozen? ⟨b, 3, none⟩ = false ∧ b < w1.heap.size → G) : G := k (cells4 hb hlt h0 h1 h2 h3 f0 f1 f2 f3)
theorem y5_then {G : Prop} {W w1 : World} {b : Nat} {c0 c1 c2 c3 c4 : Value} (hb : Below W.heap.size W w1) (hlt : b < W.heap.size) (h0 : W.cell? ⟨b, 0, none⟩ = some c0) (h1 : W.cell? ⟨b, 1, none⟩ = some c1) (h2 : W.cell? ⟨b, 2, none⟩ = some c2) (h3 : W.cell? ⟨b, 3, none⟩ = some c3) (h4 : W.cell? ⟨b, 4, none⟩ = some c4)
    (f0 : W.frozen? ⟨b, 0, none⟩ = false) (f1 : W.frozen? ⟨b, 1, none⟩ = false) (f2 : W.frozen? ⟨b, 2, none⟩ = false) (f3 : W.frozen? ⟨b, 3, none⟩ = false) (f4 : W.frozen? ⟨b, 4, none⟩ = false)
    (k : w1.cell? ⟨b, 0, none⟩ = some c0 ∧ w1.cell? ⟨b, 1, none⟩ = some c1 ∧ w1.cell? ⟨b, 2, none⟩ = some c2 ∧ w1.cell? ⟨b, 3, none⟩ = some c3 ∧ w1.cell? ⟨b, 4, none⟩ = some c4 ∧
      w1.frozen? ⟨b, 0, none⟩ = false ∧ w1.frozen? ⟨b, 1, none⟩ = false ∧ w1.frozen? ⟨b, 2, none⟩ = false ∧ w1.frozen? ⟨b, 3, none⟩ = false ∧ w1.frozen? ⟨b, 4, none⟩ = false ∧ b < w1.heap.size → G) : G := k (cells5 hb hlt h0 h1 h2 h3 h4 f0 f1 f2 f3 f4)
theorem keep2 {W w' : World} {b : Nat} {c0 c1 : Value} (h : Below W.heap.size W w') (hlt : b < W.heap.size) (h0 : W.cell? ⟨b, 0, none⟩ = some c0) (h1 : W.cell? ⟨b, 1, none⟩ = some c1) :
    w'.cell? ⟨b, 0, none⟩ = some c0 ∧ w'.cell? ⟨b, 1, none⟩ = some c1 ∧ Below W.heap.size W w' := ⟨(h.cell hlt).trans h0, (h.cell hlt).trans h1, h⟩

theorem head_len {l : List Int} (he : headE l = 0) : 2 ≤ l.length := by
  rcases Nat.lt_or_ge l.length 2 with h2 | h2
  · rw [show headE l = 6 by unfold headE; rw [if_pos h2]] at he
    cases he
  · exact h2
theorem head_wid {l : List Int} (he : headE l = 0) : at0 l 1 ≤ wid (at0 l 0 == 6) := by
  unfold headE at he
  split at he
  · cases he
  · split at he
    · cases he
    · split at he
      · cases he
      · omega
end Go.Proofs.Ytpigdjlanabacaa
