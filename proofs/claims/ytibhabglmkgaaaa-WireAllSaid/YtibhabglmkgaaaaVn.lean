/-
  Bytes as a string; the document's example for layer 4 (awake): it returns true. No condition.
-/
import Derived.Test.YtibhabglmkgaaaaVm
import Derived.Test.YtibhabglmkgaaaaPj
namespace Go.Proofs.Ytibhabglmkgaaaa
open Go.RowKit
set_option maxRecDepth 100000

theorem conv_rd {w : World} {A : Option Addr} {c : Nat} {l : List Int} (h : Rd w A c l) : (convert 22 9 (.slice A l.length c)).run Try.prog w = .ok (.string (strOfNums l)) w := by
  by_cases h0 : l = []
  · subst h0
    rcases A with _ | ad
    · exact run_convert_bytes_nil w 22 5 Try.underlying22 Try.underlying5 0 c 9 Try.underlying9
    · have hl : (loadCells ad 0).run Try.prog w = .ok (([] : List Int).map (Value.int .u8)).toArray w := by simpa using run_loadCells_list (P := Try.prog) w ad [] (by simp)
      rw [run_convert_bytes_string w 22 9 5 _ _ c Try.underlying22 Try.underlying5 Try.underlying9]
      exact run_bytesToString w _ 0 c [] hl
  · obtain ⟨g, off, rfl, hg, hc⟩ := h.2.2.2 h0
    exact run_convert_bytes_arg w 22 5 Try.underlying22 Try.underlying5 g off l.length c l rfl hc 9 Try.underlying9
theorem exW : putP (pof adA 8) = [4, 8, 10] := by decide +kernel
theorem exW2 : getE [4, 8, 10] = 0 ∧ getN [4, 8, 10] = 3 ∧ (getP [4, 8, 10]).n = 8 ∧ adEq (getP [4, 8, 10]).a adA = true := by decide +kernel
theorem exW3 : strOfNums [4, 8, 10] = ⟨#[4, 8, 10]⟩ := by decide +kernel

set_option maxHeartbeats 1000000 in
theorem awake4_gen (a : Ad) (q : Pf) (l : List Int) (w : World) (ea : fromv exA false = a) (hq : [] ++ putP (pof a 8) = l) (h1 : getE l = 0) (h2 : getN l = 3) (hg : getP l = q) (h3 : q.n = 8) (h4 : adB (u q.a.hi) (u q.a.lo) q.a.v6 (u a.hi) (u a.lo) a.v6 = true) (h5 : strOfNums l = ⟨#[4, 8, 10]⟩) :
    Calls Try.prog 9 #[] w fun e w' => e = .returned (.bool true) ∧ Below w.heap.size w w' := by
  have hFa := fun (g : Nat) (W : World) hg hc => from_four g 0 4 exA (by intro j _; unfold exA; omega) W hg hc
  rw [ea] at hFa
  have HFa := Lib.hid hFa
  have t3 : (q.n == 8) = true := by simp [h3]
  have hpt := fun W : World => put_any none 0 [] (pof a 8) W ⟨Nat.le_refl _, Nat.zero_le _, fun x hx => absurd hx (List.not_mem_nil), fun h => absurd rfl h⟩ (by simp)
  rw [hq] at hpt
  have hgt := fun (A : Option Addr) (c : Nat) (W : World) (h : Rd W A c l) => get_any A c l W h
  rw [h1, h2, hg] at hgt
  have Hp := Lib.hid hpt
  have Hg := Lib.hid hgt
  have hbd : ∀ x ∈ l, 0 ≤ x ∧ x < 256 := by rw [← hq]; exact bd_putP _
  have Hb := Lib.hid hbd
  have H5 := Lib.hid h5
  clear hFa ea hpt hgt hq h1 h2 hg hbd h5 h3
  go_enter Try.func9, Try.ntmps9
  go_wp2_with fail
  refine (HFa.out w.heap.size _ ?_ ?_).mono ?_
  · simp
  · intro j hj
    have hj' : j = 0 ∨ j = 1 ∨ j = 2 ∨ j = 3 := by omega
    rcases hj' with rfl | rfl | rfl | rfl <;> rw [cell_new (by simp)] <;> rfl
  rintro e w1 ⟨rfl, hw1⟩
  have zw1 := hw1.size
  have bw1 := below_of (w := w) (by go_grown) hw1
  try simp at zw1
  clear hw1
  go_wp2_with fail
  refine (pof_any a 8 _).mono ?_
  rintro e w2 ⟨rfl, hw2⟩
  have zw2 := hw2.size
  have bw2 := below_of (w := w) (by go_grown) hw2
  try simp at zw2
  obtain ⟨pa, pb, pc, pd, pe, pf, pz⟩ := cells3 (b := w1.heap.size) hw2 (by go_size) (by go_simp <;> rfl) (by go_simp <;> rfl) (by go_simp <;> rfl) (by go_simp <;> rfl) (by go_simp <;> rfl) (by go_simp <;> rfl)
  clear hw2
  go_wp2_with fail
  refine (Hp.out _).mono ?_
  rintro e w3 ⟨v3, rfl, ho3, hw3⟩
  obtain ⟨_, A, c, rfl, hr3⟩ := own_rd ho3 Hb.out
  have bw3 := below_of (w := w) (by go_grown) hw3
  obtain ⟨p'a, p'b, p'c, p'd, p'e, p'f, p'z⟩ := cells3 (b := w1.heap.size) hw3 (by go_size) (by go_simp <;> rfl) (by go_simp <;> rfl) (by go_simp <;> rfl) (by go_simp <;> rfl) (by go_simp <;> rfl) (by go_simp <;> rfl)
  have HR := Lib.hid hr3
  clear hw3 ho3 hr3 pa pb pc pd pe pf pz
  go_wp2_with fail
  refine (Hg.out A c _ HR.out).mono ?_
  rintro e w4 ⟨rfl, hw4⟩
  have bw4 := below_of (w := w) (by go_grown) hw4
  obtain ⟨pa, pb, pc, pd, pe, pf, pz⟩ := cells3 (b := w1.heap.size) hw4 (by go_size) (by go_simp <;> rfl) (by go_simp <;> rfl) (by go_simp <;> rfl) (by go_simp <;> rfl) (by go_simp <;> rfl) (by go_simp <;> rfl)
  have HR4 := Lib.hid (HR.out.keep hw4)
  clear hw4 p'a p'b p'c p'd p'e p'f p'z
  go_upto_region 4 with fail
  have hb4 : Below w4.heap.size w4 (World.alloc w4 _) := (Below.refl _ w4).alloc (Nat.le_refl _) (Obj.cells #[.int .u64 (u q.a.hi), .int .u64 (u q.a.lo), .bool q.a.v6, .int .i64 q.n] 27)
  generalize hW : World.alloc _ _ = W
  have hz : w.heap.size ≤ W.heap.size := by subst hW; go_size
  have hB : Below w.heap.size w W := by subst hW; go_grown
  rw [hW] at hb4
  obtain ⟨p'a, p'b, p'c, p'd, p'e, p'f, p'z⟩ := cells3 (W := W) (b := w1.heap.size) (Below.refl _ W) (by subst hW; go_size) (by subst hW; go_simp <;> rfl) (by subst hW; go_simp <;> rfl) (by subst hW; go_simp <;> rfl) (by subst hW; go_simp <;> rfl) (by subst hW; go_simp <;> rfl) (by subst hW; go_simp <;> rfl)
  obtain ⟨ra, rb, rc, rg, rd, re, rf, rh, rz⟩ := cells4 (W := W) (b := w4.heap.size) (Below.refl _ W) (by subst hW; go_size) (by subst hW; go_simp <;> rfl) (by subst hW; go_simp <;> rfl) (by subst hW; go_simp <;> rfl) (by subst hW; go_simp <;> rfl) (by subst hW; go_simp <;> rfl) (by subst hW; go_simp <;> rfl) (by subst hW; go_simp <;> rfl) (by subst hW; go_simp <;> rfl)
  have hcv := (conv_rd (HR4.out.keep hb4)).trans (by rw [H5.out])
  clear hW pa pb pc pd pe pf pz hb4
  go_wp2
  go_ret
  exact ⟨rfl, hB⟩
theorem awake4_any (w : World) : Calls Try.prog 9 #[] w fun e w' => e = .returned (.bool true) ∧ Below w.heap.size w w' :=
  awake4_gen adA (getP [4, 8, 10]) [4, 8, 10] w exA_from exW exW2.1 exW2.2.1 rfl exW2.2.2.1 exW2.2.2.2 exW3

end Go.Proofs.Ytibhabglmkgaaaa
