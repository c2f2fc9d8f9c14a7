/-
  The document's example (awake): it returns true. No condition.
-/
import Derived.Test.YteeeiobkjakmpaaWb
import Derived.Test.YteeeiobkjakmpaaWi
namespace Go.Proofs.Yteeeiobkjakmpaa
open Go.RowKit

def exBytes (j : Nat) : Int := if j = 0 then 192 else if j = 1 then 168 else if j = 2 then 0 else 1
def exAd : Ad := ⟨13882345855664521216#64, 0#64, false⟩
theorem ex_from : fromv exBytes false = exAd := by decide +kernel

set_option maxHeartbeats 1000000 in
theorem awake_any (w : World) :
    Calls Try.prog 10 #[] w fun e w' => e = .returned (.bool true) ∧ Below w.heap.size w w' := by
  have e0 : bitv exAd 0 = 1 := by decide +kernel
  have e1 : bitv exAd 1 = 1 := by decide +kernel
  have e2 : bitv exAd 2 = 0 := by decide +kernel
  have e3 : bitv exAd 31 = 1 := by decide +kernel
  have e4 : saneB exAd = true := by decide +kernel
  have hF := fun (g : Nat) (W : World) hg hc => from_four g 0 4 exBytes (by intro j _; unfold exBytes; omega) W hg hc
  rw [ex_from] at hF
  have HF := Lib.hid hF
  clear hF
  go_enter Try.func10, Try.ntmps10
  go_wp2_with fail
  refine (HF.out w.heap.size _ ?_ ?_).mono ?_
  · simp
  · intro j hj
    have hj' : j = 0 ∨ j = 1 ∨ j = 2 ∨ j = 3 := by omega
    rcases hj' with rfl | rfl | rfl | rfl <;> rw [cell_new rfl] <;> rfl
  rintro e w1 ⟨rfl, hw1⟩
  have b1 := below_of (w := w) (by go_grown) hw1
  have z1 := b1.size
  clear hw1
  go_wp2_with fail
  refine (bit_any exAd 0 _).mono ?_
  rintro e w2 ⟨rfl, hw2⟩
  have zw2 := hw2.size
  have bw2 := below_of (w := w) (by go_grown) hw2
  try simp at zw2
  obtain ⟨pa, pb, pc, pd, pe, pf, pz⟩ := cells3 (b := w1.heap.size) hw2 (by go_size) (by go_simp <;> rfl) (by go_simp <;> rfl) (by go_simp <;> rfl) (by go_simp <;> rfl) (by go_simp <;> rfl) (by go_simp <;> rfl)
  clear hw2
  go_wp2_with fail
  refine (bit_any exAd 1 _).mono ?_
  rintro e w3 ⟨rfl, hw3⟩
  have zw3 := hw3.size
  have bw3 := below_of (w := w) (by go_grown) hw3
  try simp at zw3
  obtain ⟨qa, qb, qc, qd, qe, qf, qz⟩ := cells3 (b := w1.heap.size) hw3 (by go_size) (by go_simp <;> rfl) (by go_simp <;> rfl) (by go_simp <;> rfl) (by go_simp <;> rfl) (by go_simp <;> rfl) (by go_simp <;> rfl)
  clear hw3 pa pb pc pd pe pf
  go_wp2_with fail
  refine (bit_any exAd 2 _).mono ?_
  rintro e w4 ⟨rfl, hw4⟩
  have zw4 := hw4.size
  have bw4 := below_of (w := w) (by go_grown) hw4
  try simp at zw4
  obtain ⟨pa, pb, pc, pd, pe, pf, pz⟩ := cells3 (b := w1.heap.size) hw4 (by go_size) (by go_simp <;> rfl) (by go_simp <;> rfl) (by go_simp <;> rfl) (by go_simp <;> rfl) (by go_simp <;> rfl) (by go_simp <;> rfl)
  clear hw4 qa qb qc qd qe qf
  go_wp2_with fail
  refine (bit_any exAd 31 _).mono ?_
  rintro e w5 ⟨rfl, hw5⟩
  have zw5 := hw5.size
  have bw5 := below_of (w := w) (by go_grown) hw5
  try simp at zw5
  obtain ⟨qa, qb, qc, qd, qe, qf, qz⟩ := cells3 (b := w1.heap.size) hw5 (by go_size) (by go_simp <;> rfl) (by go_simp <;> rfl) (by go_simp <;> rfl) (by go_simp <;> rfl) (by go_simp <;> rfl) (by go_simp <;> rfl)
  clear hw5 pa pb pc pd pe pf
  go_wp2_with fail
  refine (width_any false _).mono ?_
  rintro e w6 ⟨rfl, rfl⟩
  have e5 : wid false = 32 := rfl
  go_wp2_with fail
  refine (sane_any exAd _).mono ?_
  rintro e w7 ⟨rfl, hw7⟩
  have zw7 := hw7.size
  have bw7 := below_of (w := w) (by go_grown) hw7
  try simp at zw7
  clear hw7
  go_wp2
  go_ret
  exact ⟨rfl, bw7⟩

end Go.Proofs.Yteeeiobkjakmpaa
