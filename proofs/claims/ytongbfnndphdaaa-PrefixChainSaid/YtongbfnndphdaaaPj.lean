/-
  The document's example for layer 2 (awake): it returns true. No condition.
-/
import Derived.Test.YtongbfnndphdaaaPh
import Derived.Test.YtongbfnndphdaaaWi
namespace Go.Proofs.Ytongbfnndphdaaa
open Go.RowKit

def exA (j : Nat) : Int := if j = 0 then 10 else 0
def exB (j : Nat) : Int := if j = 0 then 10 else if j = 1 then 1 else 0
def exC (j : Nat) : Int := if j = 0 then 11 else 0
def adA : Ad := ⟨720575940379279360#64, 0#64, false⟩
def adB' : Ad := ⟨720857415355990016#64, 0#64, false⟩
def adC : Ad := ⟨792633534417207296#64, 0#64, false⟩
theorem exA_from : fromv exA false = adA := by decide +kernel
theorem exB_from : fromv exB false = adB' := by decide +kernel
theorem exC_from : fromv exC false = adC := by decide +kernel
theorem exSib : (psib (pof adA 8)).2 = true ∧ psane (psib (pof adA 8)).1 = true ∧ (psib (pof adA 8)).1.n = 8 ∧ pfEq (psib (pof adA 8)).1 (pof adC 8) = true := by decide +kernel
theorem exCov : pcov (pof adA 8) (pof adB' 16) = true := by decide +kernel

set_option maxHeartbeats 1000000 in
theorem awake2_gen (a b c : Ad) (w : World) (ea : fromv exA false = a) (eb : fromv exB false = b) (ec : fromv exC false = c) 
    (t1 : (psib (pof a 8)).2 = true) (t2 : psane (psib (pof a 8)).1 = true) (t3 : ((psib (pof a 8)).1.n == 8) = true) (t4 : pfB (u (psib (pof a 8)).1.a.hi) (u (psib (pof a 8)).1.a.lo) (psib (pof a 8)).1.a.v6 (psib (pof a 8)).1.n (u (pof c 8).a.hi) (u (pof c 8).a.lo) (pof c 8).a.v6 (pof c 8).n = true) (t5 : pcov (pof a 8) (pof b 16) = true) :
    Calls Try.prog 10 #[] w fun e w' => e = .returned (.bool true) ∧ Below w.heap.size w w' := by
  have hFa := fun (g : Nat) (W : World) hg hc => from_four g 0 4 exA (by intro j _; unfold exA; omega) W hg hc
  have hFb := fun (g : Nat) (W : World) hg hc => from_four g 0 4 exB (by intro j _; unfold exB; omega) W hg hc
  have hFc := fun (g : Nat) (W : World) hg hc => from_four g 0 4 exC (by intro j _; unfold exC; omega) W hg hc
  rw [ea] at hFa
  rw [eb] at hFb
  rw [ec] at hFc
  have HFa := Lib.hid hFa
  have HFb := Lib.hid hFb
  have HFc := Lib.hid hFc
  clear hFa hFb hFc ea eb ec
  go_enter Try.func10, Try.ntmps10
  go_wp2_with fail
  refine (HFa.out w.heap.size _ ?_ ?_).mono ?_
  · simp
  · intro j hj
    have hj' : j = 0 ∨ j = 1 ∨ j = 2 ∨ j = 3 := by omega
    rcases hj' with rfl | rfl | rfl | rfl <;> rw [cell_new (by simp)] <;> rfl
  rintro e w1 ⟨rfl, hw1⟩
  have zw1 := hw1.size
  have bw1 := below_of (w := w) (by go_grown) hw1
  try simp at zw1
  clear hw1
  go_wp2_with fail
  refine (HFb.out (w1.heap.size + 1) _ ?_ ?_).mono ?_
  · simp
  · intro j hj
    have hj' : j = 0 ∨ j = 1 ∨ j = 2 ∨ j = 3 := by omega
    rcases hj' with rfl | rfl | rfl | rfl <;> rw [cell_new (by simp)] <;> rfl
  rintro e w2 ⟨rfl, hw2⟩
  have zw2 := hw2.size
  have bw2 := below_of (w := w) (by go_grown) hw2
  try simp at zw2
  obtain ⟨pa, pb, pc, pd, pe, pf, pz⟩ := cells3 (b := w1.heap.size) hw2 (by go_size) (by go_simp <;> rfl) (by go_simp <;> rfl) (by go_simp <;> rfl) (by go_simp <;> rfl) (by go_simp <;> rfl) (by go_simp <;> rfl)
  clear hw2
  go_wp2_with fail
  refine (HFc.out (w2.heap.size + 1) _ ?_ ?_).mono ?_
  · simp
  · intro j hj
    have hj' : j = 0 ∨ j = 1 ∨ j = 2 ∨ j = 3 := by omega
    rcases hj' with rfl | rfl | rfl | rfl <;> rw [cell_new (by simp)] <;> rfl
  rintro e w3 ⟨rfl, hw3⟩
  have zw3 := hw3.size
  have bw3 := below_of (w := w) (by go_grown) hw3
  try simp at zw3
  obtain ⟨p'a, p'b, p'c, p'd, p'e, p'f, p'z⟩ := cells3 (b := w1.heap.size) hw3 (by go_size) (by go_simp <;> rfl) (by go_simp <;> rfl) (by go_simp <;> rfl) (by go_simp <;> rfl) (by go_simp <;> rfl) (by go_simp <;> rfl)
  obtain ⟨q'a, q'b, q'c, q'd, q'e, q'f, q'z⟩ := cells3 (b := w2.heap.size) hw3 (by go_size) (by go_simp <;> rfl) (by go_simp <;> rfl) (by go_simp <;> rfl) (by go_simp <;> rfl) (by go_simp <;> rfl) (by go_simp <;> rfl)
  clear hw3 pa pb pc pd pe pf pz
  go_wp2_with fail
  refine (pof_any a 8 _).mono ?_
  rintro e w4 ⟨rfl, hw4⟩
  have zw4 := hw4.size
  have bw4 := below_of (w := w) (by go_grown) hw4
  try simp at zw4
  obtain ⟨pa, pb, pc, pd, pe, pf, pz⟩ := cells3 (b := w1.heap.size) hw4 (by go_size) (by go_simp <;> rfl) (by go_simp <;> rfl) (by go_simp <;> rfl) (by go_simp <;> rfl) (by go_simp <;> rfl) (by go_simp <;> rfl)
  obtain ⟨qa, qb, qc, qd, qe, qf, qz⟩ := cells3 (b := w2.heap.size) hw4 (by go_size) (by go_simp <;> rfl) (by go_simp <;> rfl) (by go_simp <;> rfl) (by go_simp <;> rfl) (by go_simp <;> rfl) (by go_simp <;> rfl)
  obtain ⟨ra, rb, rc, rd, re, rf, rz⟩ := cells3 (b := w3.heap.size) hw4 (by go_size) (by go_simp <;> rfl) (by go_simp <;> rfl) (by go_simp <;> rfl) (by go_simp <;> rfl) (by go_simp <;> rfl) (by go_simp <;> rfl)
  clear hw4 p'a p'b p'c p'd p'e p'f p'z q'a q'b q'c q'd q'e q'f q'z
  go_wp2_with fail
  refine (psib_any (pof a 8) _).mono ?_
  rintro e w5 ⟨rfl, hw5⟩
  have zw5 := hw5.size
  have bw5 := below_of (w := w) (by go_grown) hw5
  try simp at zw5
  obtain ⟨p'a, p'b, p'c, p'd, p'e, p'f, p'z⟩ := cells3 (b := w1.heap.size) hw5 (by go_size) (by go_simp <;> rfl) (by go_simp <;> rfl) (by go_simp <;> rfl) (by go_simp <;> rfl) (by go_simp <;> rfl) (by go_simp <;> rfl)
  obtain ⟨q'a, q'b, q'c, q'd, q'e, q'f, q'z⟩ := cells3 (b := w2.heap.size) hw5 (by go_size) (by go_simp <;> rfl) (by go_simp <;> rfl) (by go_simp <;> rfl) (by go_simp <;> rfl) (by go_simp <;> rfl) (by go_simp <;> rfl)
  obtain ⟨r'a, r'b, r'c, r'd, r'e, r'f, r'z⟩ := cells3 (b := w3.heap.size) hw5 (by go_size) (by go_simp <;> rfl) (by go_simp <;> rfl) (by go_simp <;> rfl) (by go_simp <;> rfl) (by go_simp <;> rfl) (by go_simp <;> rfl)
  clear hw5 pa pb pc pd pe pf pz qa qb qc qd qe qf qz ra rb rc rd re rf rz
  go_wp2_with fail
  generalize hW : World.alloc _ _ = W
  have hz : w.heap.size ≤ W.heap.size := by subst hW; go_size
  have hB : Below w.heap.size w W := by subst hW; go_grown
  obtain ⟨pa, pb, pc, pd, pe, pf, pz⟩ := cells3 (W := W) (b := w1.heap.size) (Below.refl _ W) (by subst hW; go_size) (by subst hW; go_simp <;> rfl) (by subst hW; go_simp <;> rfl) (by subst hW; go_simp <;> rfl) (by subst hW; go_simp <;> rfl) (by subst hW; go_simp <;> rfl) (by subst hW; go_simp <;> rfl)
  obtain ⟨qa, qb, qc, qd, qe, qf, qz⟩ := cells3 (W := W) (b := w2.heap.size) (Below.refl _ W) (by subst hW; go_size) (by subst hW; go_simp <;> rfl) (by subst hW; go_simp <;> rfl) (by subst hW; go_simp <;> rfl) (by subst hW; go_simp <;> rfl) (by subst hW; go_simp <;> rfl) (by subst hW; go_simp <;> rfl)
  obtain ⟨ra, rb, rc, rd, re, rf, rz⟩ := cells3 (W := W) (b := w3.heap.size) (Below.refl _ W) (by subst hW; go_size) (by subst hW; go_simp <;> rfl) (by subst hW; go_simp <;> rfl) (by subst hW; go_simp <;> rfl) (by subst hW; go_simp <;> rfl) (by subst hW; go_simp <;> rfl) (by subst hW; go_simp <;> rfl)
  obtain ⟨sa, sb, sc, sg, sd, se, sf, sh, sz⟩ := cells4 (W := W) (b := w5.heap.size) (Below.refl _ W) (by subst hW; go_size) (by subst hW; go_simp <;> rfl) (by subst hW; go_simp <;> rfl) (by subst hW; go_simp <;> rfl) (by subst hW; go_simp <;> rfl) (by subst hW; go_simp <;> rfl) (by subst hW; go_simp <;> rfl) (by subst hW; go_simp <;> rfl) (by subst hW; go_simp <;> rfl)
  clear hW p'a p'b p'c p'd p'e p'f p'z q'a q'b q'c q'd q'e q'f q'z r'a r'b r'c r'd r'e r'f r'z
  have Lpa := fun x : Later W.heap.size W => (x.cell pz).trans pa
  have Lpb := fun x : Later W.heap.size W => (x.cell pz).trans pb
  have Lpc := fun x : Later W.heap.size W => (x.cell pz).trans pc
  have Lqa := fun x : Later W.heap.size W => (x.cell qz).trans qa
  have Lqb := fun x : Later W.heap.size W => (x.cell qz).trans qb
  have Lqc := fun x : Later W.heap.size W => (x.cell qz).trans qc
  have Lra := fun x : Later W.heap.size W => (x.cell rz).trans ra
  have Lrb := fun x : Later W.heap.size W => (x.cell rz).trans rb
  have Lrc := fun x : Later W.heap.size W => (x.cell rz).trans rc
  have Lsa := fun x : Later W.heap.size W => (x.cell sz).trans sa
  have Lsb := fun x : Later W.heap.size W => (x.cell sz).trans sb
  have Lsc := fun x : Later W.heap.size W => (x.cell sz).trans sc
  have Lsg := fun x : Later W.heap.size W => (x.cell sz).trans sg
  refine region_later W.heap.size (by kernel_rfl) (by kernel_rfl) ?_
  repeat (go_big_quiet_step (first | (go_at_call 21; exact later_of (Nat.le_refl _) (pof_any _ _ _)) | (go_at_call 27; exact later_of (Nat.le_refl _) (pcov_any _ _ _)) | (go_at_call 19; exact later_of (Nat.le_refl _) (psane_any _ _))))
  refine wpQuiet_nil ?_
  intro x
  have hx : Below w.heap.size w x.at := hB.trans (x.below.mono hz)
  go_wp2
  go_ret
  exact ⟨rfl, hx⟩

theorem awake2_any (w : World) :
    Calls Try.prog 10 #[] w fun e w' => e = .returned (.bool true) ∧ Below w.heap.size w w' :=
  awake2_gen adA adB' adC w exA_from exB_from exC_from exSib.1 exSib.2.1 (by rw [exSib.2.2.1]; rfl) exSib.2.2.2 exCov

end Go.Proofs.Ytongbfnndphdaaa
