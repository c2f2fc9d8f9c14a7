/-
  AddrTwo returns true, whatever two addresses and bytes. No condition.
-/
import Derived.Test.YteeeiobkjakmpaaRefC
import Derived.Test.YteeeiobkjakmpaaLawB
namespace Go.Proofs.Yteeeiobkjakmpaa
open Go.RowKit

/-- Of any bytes the two ways to an address answer one thing, in every world that keeps the old blocks. -/
theorem from_both (A : Option Addr) (len cap : Nat) (z : List Int) (w : World) (hz : IsBytes w A len cap z) : ∃ (x : Ad) (r : Int),
    (∀ W, Below w.heap.size w W → Calls Try.prog 27 #[.slice A len cap] W fun e w' => e = .returned (.tuple #[.agg #[.int .u64 (u x.hi), .int .u64 (u x.lo), .bool x.v6], .int .i64 r]) ∧ Below W.heap.size W w') ∧
    (∀ W, Below w.heap.size w W → Calls Try.prog 28 #[.slice A len cap] W fun e w' => e = .returned (.tuple #[.agg #[.int .u64 (u x.hi), .int .u64 (u x.lo), .bool x.v6], .int .i64 r]) ∧ Below W.heap.size W w') := by
  by_cases hv : ∃ v, len = nb v
  · obtain ⟨v, rfl⟩ := hv
    have hp : 0 < nb v := by cases v <;> decide
    rcases hz with ⟨_, h, _, _⟩ | ⟨x, rfl, hl, hm, hlen, hcell, hb⟩
    · omega
    · obtain ⟨b, off, rfl, hc⟩ := ints_at hcell (by omega)
      have hbs : ∀ j, j < nb v → 0 ≤ z.getD j 0 ∧ z.getD j 0 < 256 := by
        intro j hj
        have : z.getD j 0 = z[j]'(by omega) := by rw [List.getD_eq_getElem?_getD, List.getElem?_eq_getElem (by omega)]; rfl
        rw [this]
        exact hb _ (List.getElem_mem _)
      have hg : b < w.heap.size := World.block_lt_of_cell? w _ (hc 0 (by omega))
      refine ⟨fromv (fun j => z.getD j 0) v, 0, fun W hW => ?_, fun W hW => ?_⟩
      · exact from_any v b off cap (fun j => z.getD j 0) hbs W (Nat.lt_of_lt_of_le hg hW.size) fun j hj => (hW.cell (p := ⟨b, off + j, none⟩) hg).trans (hc j (by omega))
      · exact refFrom_any v b off cap (fun j => z.getD j 0) hbs W (Nat.lt_of_lt_of_le hg hW.size) fun j hj => (hW.cell (p := ⟨b, off + j, none⟩) hg).trans (hc j (by omega))
  · have h4 : len ≠ 4 := fun h => hv ⟨false, h⟩
    have h16 : len ≠ 16 := fun h => hv ⟨true, h⟩
    exact ⟨⟨0#64, 0#64, false⟩, 4, fun W _ => from_bad A len cap h4 h16 W, fun W _ => refFrom_bad A len cap h4 h16 W⟩

set_option maxHeartbeats 2000000 in
set_option maxRecDepth 100000 in
theorem two_law (a b : Ad) (A : Option Addr) (len cap : Nat) (z : List Int) (w : World) (hz : IsBytes w A len cap z) :
    Calls Try.prog 4 #[.agg #[.int .u64 (u a.hi), .int .u64 (u a.lo), .bool a.v6], .agg #[.int .u64 (u b.hi), .int .u64 (u b.lo), .bool b.v6], .slice A len cap] w fun e w' => e = .returned (.bool true) ∧ Below w.heap.size w w' := by
  obtain ⟨x, r, hx, hy⟩ := from_both A len cap z w hz
  have HX := Lib.hid hx
  have HY := Lib.hid hy
  clear hx hy hz
  have g1 : adB (u x.hi) (u x.lo) x.v6 (u x.hi) (u x.lo) x.v6 = true := (adEq_iff _ _).2 rfl
  go_enter Try.func4, Try.ntmps4
  go_wp2_with fail
  refine (awake_any _).mono ?_
  rintro e w1 ⟨rfl, hw1⟩
  have zw1 := hw1.size
  have bw1 := below_of (w := w) (by go_grown) hw1
  try simp at zw1
  obtain ⟨pa, pb, pc, pd, pe, pf, pz⟩ := cells3 (b := w.heap.size) hw1 (by go_size) (by go_simp <;> rfl) (by go_simp <;> rfl) (by go_simp <;> rfl) (by go_simp <;> rfl) (by go_simp <;> rfl) (by go_simp <;> rfl)
  obtain ⟨qa, qb, qc, qd, qe, qf, qz⟩ := cells3 (b := w.heap.size + 1) hw1 (by go_size) (by go_simp <;> rfl) (by go_simp <;> rfl) (by go_simp <;> rfl) (by go_simp <;> rfl) (by go_simp <;> rfl) (by go_simp <;> rfl)
  clear hw1
  go_wp2_with fail
  refine (HX.out _ (by first | exact bw1 | go_grown)).mono ?_
  rintro e w2 ⟨rfl, hw2⟩
  have bw2 := below_of (w := w) (by go_grown) hw2
  obtain ⟨p'a, p'b, p'c, p'd, p'e, p'f, p'z⟩ := cells3 (b := w.heap.size) hw2 (by go_size) (by go_simp <;> rfl) (by go_simp <;> rfl) (by go_simp <;> rfl) (by go_simp <;> rfl) (by go_simp <;> rfl) (by go_simp <;> rfl)
  obtain ⟨q'a, q'b, q'c, q'd, q'e, q'f, q'z⟩ := cells3 (b := w.heap.size + 1) hw2 (by go_size) (by go_simp <;> rfl) (by go_simp <;> rfl) (by go_simp <;> rfl) (by go_simp <;> rfl) (by go_simp <;> rfl) (by go_simp <;> rfl)
  clear hw2 pa pb pc pd pe pf pz qa qb qc qd qe qf qz
  go_wp2_with fail
  refine (HY.out _ (by first | exact bw2 | go_grown)).mono ?_
  rintro e w3 ⟨rfl, hw3⟩
  have bw3 := below_of (w := w) (by go_grown) hw3
  obtain ⟨pa, pb, pc, pd, pe, pf, pz⟩ := cells3 (b := w.heap.size) hw3 (by go_size) (by go_simp <;> rfl) (by go_simp <;> rfl) (by go_simp <;> rfl) (by go_simp <;> rfl) (by go_simp <;> rfl) (by go_simp <;> rfl)
  obtain ⟨qa, qb, qc, qd, qe, qf, qz⟩ := cells3 (b := w.heap.size + 1) hw3 (by go_size) (by go_simp <;> rfl) (by go_simp <;> rfl) (by go_simp <;> rfl) (by go_simp <;> rfl) (by go_simp <;> rfl) (by go_simp <;> rfl)
  obtain ⟨ra, rb, rc, rd, re, rf, rz⟩ := cells3 (b := w2.heap.size) hw3 (by go_size) (by go_simp <;> rfl) (by go_simp <;> rfl) (by go_simp <;> rfl) (by go_simp <;> rfl) (by go_simp <;> rfl) (by go_simp <;> rfl)
  clear hw3 p'a p'b p'c p'd p'e p'f p'z q'a q'b q'c q'd q'e q'f q'z
  go_wp2_with fail
  generalize hW : World.alloc _ _ = W
  have hz : w.heap.size ≤ W.heap.size := by subst hW; go_size
  have hB : Below w.heap.size w W := by subst hW; go_grown
  obtain ⟨p'a, p'b, p'c, p'd, p'e, p'f, p'z⟩ := cells3 (W := W) (b := w.heap.size) (Below.refl _ W) (by subst hW; go_size) (by subst hW; go_simp <;> rfl) (by subst hW; go_simp <;> rfl) (by subst hW; go_simp <;> rfl) (by subst hW; go_simp <;> rfl) (by subst hW; go_simp <;> rfl) (by subst hW; go_simp <;> rfl)
  obtain ⟨q'a, q'b, q'c, q'd, q'e, q'f, q'z⟩ := cells3 (W := W) (b := w.heap.size + 1) (Below.refl _ W) (by subst hW; go_size) (by subst hW; go_simp <;> rfl) (by subst hW; go_simp <;> rfl) (by subst hW; go_simp <;> rfl) (by subst hW; go_simp <;> rfl) (by subst hW; go_simp <;> rfl) (by subst hW; go_simp <;> rfl)
  obtain ⟨r'a, r'b, r'c, r'd, r'e, r'f, r'z⟩ := cells3 (W := W) (b := w2.heap.size) (Below.refl _ W) (by subst hW; go_size) (by subst hW; go_simp <;> rfl) (by subst hW; go_simp <;> rfl) (by subst hW; go_simp <;> rfl) (by subst hW; go_simp <;> rfl) (by subst hW; go_simp <;> rfl) (by subst hW; go_simp <;> rfl)
  obtain ⟨s'a, s'b, s'c, s'd, s'e, s'f, s'z⟩ := cells3 (W := W) (b := w3.heap.size) (Below.refl _ W) (by subst hW; go_size) (by subst hW; go_simp <;> rfl) (by subst hW; go_simp <;> rfl) (by subst hW; go_simp <;> rfl) (by subst hW; go_simp <;> rfl) (by subst hW; go_simp <;> rfl) (by subst hW; go_simp <;> rfl)
  clear hW pa pb pc pd pe pf pz qa qb qc qd qe qf qz ra rb rc rd re rf rz
  have Lp'a := fun x : Later W.heap.size W => (x.cell p'z).trans p'a
  have Lp'b := fun x : Later W.heap.size W => (x.cell p'z).trans p'b
  have Lp'c := fun x : Later W.heap.size W => (x.cell p'z).trans p'c
  have Lq'a := fun x : Later W.heap.size W => (x.cell q'z).trans q'a
  have Lq'b := fun x : Later W.heap.size W => (x.cell q'z).trans q'b
  have Lq'c := fun x : Later W.heap.size W => (x.cell q'z).trans q'c
  have Lr'a := fun x : Later W.heap.size W => (x.cell r'z).trans r'a
  have Lr'b := fun x : Later W.heap.size W => (x.cell r'z).trans r'b
  have Lr'c := fun x : Later W.heap.size W => (x.cell r'z).trans r'c
  have Ls'a := fun x : Later W.heap.size W => (x.cell s'z).trans s'a
  have Ls'b := fun x : Later W.heap.size W => (x.cell s'z).trans s'b
  have Ls'c := fun x : Later W.heap.size W => (x.cell s'z).trans s'c
  refine region_later W.heap.size (by kernel_rfl) (by kernel_rfl) ?_
  repeat (go_big_quiet_step (first | (go_at_call 29; exact later_of (Nat.le_refl _) (cmp_any _ _ _)) | (go_at_call 31; exact later_of (Nat.le_refl _) (common_any _ _ _)) | (go_at_call 30; exact later_of (Nat.le_refl _) (refCompare_any _ _ _)) | (go_at_call 32; exact later_of (Nat.le_refl _) (refCommon_any _ _ _))))
  refine wpQuiet_nil ?_
  intro x
  have hx : Below w.heap.size w x.at := hB.trans (x.below.mono hz)
  go_wp2
  go_ret
  exact ⟨rfl, hx⟩

end Go.Proofs.Yteeeiobkjakmpaa
