/-
  What Mask, Fill and Next of the document's answer for layer 1 return. No condition.
-/
import Derived.Test.YteeeiobkjakmpaaRefF
namespace Go.Proofs.Yteeeiobkjakmpaa
open Go.RowKit

set_option maxHeartbeats 1000000 in
theorem refMask_any (a : Ad) (n : Int) (w : World) :
    Calls Try.prog 20 #[.agg #[.int .u64 (u a.hi), .int .u64 (u a.lo), .bool a.v6], .int .i64 n] w fun e w' => e = .returned (.agg #[.int .u64 (u (maskv a n).hi), .int .u64 (u (maskv a n).lo), .bool (maskv a n).v6]) ∧ Below w.heap.size w w' := by
  have hf := fun W => fromv_any a n _ 0 rfl (by omega) W
  rw [of_mask] at hf
  have HF := Lib.hid hf
  clear hf
  go_enter Try.func20, Try.ntmps20
  go_wp2_with fail
  refine (HF.out _).mono ?_
  rintro e w3 ⟨rfl, h3⟩
  have b3 := below_of (w := w) (by go_grown) h3
  obtain ⟨qa, qb, qc, qd, qe, qf, qz⟩ := cells3 (b := w.heap.size + 1) h3 (by go_size) (by go_simp <;> rfl) (by go_simp <;> rfl) (by go_simp <;> rfl) (by go_simp <;> rfl) (by go_simp <;> rfl) (by go_simp <;> rfl)
  clear h3
  go_wp2
  refine bodyPost_ret (v := .agg #[.int .u64 (u (maskv a n).hi), .int .u64 (u (maskv a n).lo), .bool (maskv a n).v6]) (by simp [*, results, Try.results20, go_sem] <;> rfl) rfl ⟨rfl, ?_⟩
  go_grown
set_option maxHeartbeats 1000000 in
theorem refFill_any (a : Ad) (n : Int) (w : World) :
    Calls Try.prog 22 #[.agg #[.int .u64 (u a.hi), .int .u64 (u a.lo), .bool a.v6], .int .i64 n] w fun e w' => e = .returned (.agg #[.int .u64 (u (fillv a n).hi), .int .u64 (u (fillv a n).lo), .bool (fillv a n).v6]) ∧ Below w.heap.size w w' := by
  have hf := fun W => fromv_any a n _ 1 rfl (by omega) W
  rw [of_fill] at hf
  have HF := Lib.hid hf
  clear hf
  go_enter Try.func22, Try.ntmps22
  go_wp2_with fail
  refine (HF.out _).mono ?_
  rintro e w3 ⟨rfl, h3⟩
  have b3 := below_of (w := w) (by go_grown) h3
  obtain ⟨qa, qb, qc, qd, qe, qf, qz⟩ := cells3 (b := w.heap.size + 1) h3 (by go_size) (by go_simp <;> rfl) (by go_simp <;> rfl) (by go_simp <;> rfl) (by go_simp <;> rfl) (by go_simp <;> rfl) (by go_simp <;> rfl)
  clear h3
  go_wp2
  refine bodyPost_ret (v := .agg #[.int .u64 (u (fillv a n).hi), .int .u64 (u (fillv a n).lo), .bool (fillv a n).v6]) (by simp [*, results, Try.results22, go_sem] <;> rfl) rfl ⟨rfl, ?_⟩
  go_grown

set_option maxHeartbeats 2000000 in
theorem refNext_any (a : Ad) (w : World) :
    Calls Try.prog 12 #[.agg #[.int .u64 (u a.hi), .int .u64 (u a.lo), .bool a.v6]] w fun e w' => e = .returned (.tuple #[.agg #[.int .u64 (u (nextv a).1.hi), .int .u64 (u (nextv a).1.lo), .bool (nextv a).1.v6], .bool (nextv a).2]) ∧ Below w.heap.size w w' := by
  have hw := wd_lb a.v6
  go_enter Try.func12, Try.ntmps12
  go_wp2_with fail
  refine (refDigits_any a _).mono ?_
  rintro e w1 ⟨g, c, rfl, hg, hrow, hw1⟩
  have b1 := below_of (w := w) (by go_grown) hw1
  obtain ⟨pa, pb, pc, pd, pe, pf, pz⟩ := cells3 (b := w.heap.size) hw1 (by go_size) (by go_simp <;> rfl) (by go_simp <;> rfl) (by go_simp <;> rfl) (by go_simp <;> rfl) (by go_simp <;> rfl) (by go_simp <;> rfl)
  obtain ⟨qa, qb, qc, qd, qe, qf, qz⟩ := cells3 (b := w.heap.size + 1) hw1 (by go_size) (by go_simp <;> rfl) (by go_simp <;> rfl) (by go_simp <;> rfl) (by go_simp <;> rfl) (by go_simp <;> rfl) (by go_simp <;> rfl)
  have HA : Hid (Box w1 w.heap.size a) := Lib.hid ⟨pa, pb, pc, pd, pe, pf, pz⟩
  have HBox : Hid (Box w1 (w.heap.size + 1) nil) := Lib.hid ⟨qa, qb, qc, qd, qe, qf, qz⟩
  have hgw : w.heap.size + 1 + 1 ≤ g := by simpa using hg
  have HR := Lib.hid hrow
  clear hrow hw1 hg pa pb pc pd pe pf pz qa qb qc qd qe qf qz
  go_wp2_with fail
  go_loopw [5] (fun i wr => ∃ x : Nat, x ≤ wd a.v6 ∧ i = .int .i64 ((x : Int) - 1) ∧ Hid (∀ j : Nat, x ≤ j → j < wd a.v6 → rawv a j = 1) ∧ Hid (Row wr g (wd a.v6) (fun j => if x ≤ j then 0 else rawv a j)) ∧ Hid (Box wr w.heap.size a) ∧ Hid (Box wr (w.heap.size + 1) nil) ∧ Below w.heap.size w wr) (fun i _ => (intOf i + 1).toNat)
  case atStart =>
    refine ⟨wd a.v6, by omega, rfl, Lib.hid fun j h1 h2 => absurd h1 (by omega), Lib.hid (HR.out.congr fun j hj => ?_), HA, HBox, b1⟩
    rw [if_neg (by omega)]
  case round =>
    obtain ⟨x, hx, rfl, hall, hR, hXa, hX, hB⟩ := hrel
    clear HR HA HBox b1
    cases x with
    | zero =>
      have e0 : (((0 : Nat) : Int) - 1) = -1 := rfl
      simp only [e0]
      have Hn := Lib.hid (next_stops a fun j hj => hall.out j (Nat.zero_le _) hj)
      have Ho := Lib.hid (of_raw a)
      clear hall
      obtain ⟨pa, pb, pc, pd, pe, pf, pz⟩ := hXa.out
      go_wp2_with fail
      refine (refDigits_any a _).mono ?_
      rintro e w2 ⟨g2, c2, rfl, hg2, hrow2, hw2⟩
      have b2 : Below w.heap.size w w2 := hB.trans (hw2.mono hB.size)
      have B2 := hX.out.on hw2
      have hof := of_row a g2 c2 _ w2 hrow2 (fun j hj => raw_bd a j hj)
      rw [Ho.out] at hof
      have HH := Lib.hid hof
      clear hof hrow2 hw2 hB pa pb pc pd pe pf pz hg2 Ho hX hXa hR
      go_wp2_with fail
      refine HH.out.mono ?_
      rintro e w3 ⟨rfl, h3⟩
      have b3 : Below w.heap.size w w3 := b2.trans (h3.mono b2.size)
      obtain ⟨sa, sb, sc, sd, se, sf, sz⟩ := B2.on h3
      clear h3
      go_wp2
      refine bodyPost_ret (v := .tuple #[.agg #[.int .u64 (u (norm a).hi), .int .u64 (u (norm a).lo), .bool (norm a).v6], .bool false]) (by simp [*, results, Try.results12, go_sem] <;> rfl) rfl ⟨by rw [Hn.out], ?_⟩
      go_grown
    | succ y =>
      have ey : (((y + 1 : Nat) : Int) - 1) = (y : Int) := by omega
      simp only [ey]
      have hy : y < wd a.v6 := by omega
      have ck : wr.cell? ⟨g, y, none⟩ = some (.int .i64 (rawv a y)) := by
        rw [hR.out.2.1 y hy]
        show some (Value.int IntKind.i64 (if y + 1 ≤ y then 0 else rawv a (y : Int))) = _
        rw [if_neg (by omega)]
      have fk := hR.out.2.2 y
      by_cases h1 : rawv a y = 1
      · have t1 : (rawv a y == 1) = true := by simp [h1]
        have H1 := Lib.hid h1
        clear h1
        go_wp2_with fail
        refine ⟨⟨y, by omega, rfl, Lib.hid fun j h2 h3 => ?_, Lib.hid ((hR.out.set y 0 hy).congr fun j hj => ?_), Lib.hid (hXa.out.far (by omega)), Lib.hid (hX.out.far (by omega)), hB.setCell (by simp; omega) _⟩, by first | (simp [intOf]; done) | (simp [intOf]; omega)⟩
        · by_cases e : j = y
          · rw [e]; exact H1.out
          · exact hall.out j (by omega) h3
        · show (if j = y then 0 else if y + 1 ≤ j then 0 else rawv a j) = if y ≤ j then 0 else rawv a j
          by_cases e : j = y
          · subst e
            rw [if_pos rfl, if_pos (Nat.le_refl _)]
          · rw [if_neg e]
            by_cases e2 : y + 1 ≤ j
            · rw [if_pos e2, if_pos (by omega)]
            · rw [if_neg e2, if_neg (by omega)]
      · have t1 : (rawv a y == 1) = false := by simp [h1]
        obtain ⟨n1, n2⟩ := next_goes a y hy h1 fun j h2 h3 => hall.out j (by omega) h3
        have N1 := Lib.hid n1
        have N2 := Lib.hid n2
        clear h1 n1 n2 hall
        go_wp2_with fail
        generalize hW2 : World.setCell _ _ _ = W2
        have b2 : Below w.heap.size w W2 := by subst hW2; exact hB.setCell (by simp; omega) _
        have R2 : Row W2 g (wd a.v6) (fun j => if j = y then 1 else if y < j then 0 else rawv a j) := by subst hW2; exact hR.out.set y 1 hy
        have B2 : Box W2 (w.heap.size + 1) nil := by subst hW2; exact hX.out.far (by omega)
        clear hW2 hB hX hXa hR ck fk
        have hof := of_row a g c _ W2 R2 (fun j hj => by
          show 0 ≤ (if j = y then 1 else if y < j then 0 else rawv a j) ∧ (if j = y then 1 else if y < j then 0 else rawv a j) ≤ 1
          split
          · omega
          · split
            · omega
            · exact raw_bd a j hj)
        rw [N2.out] at hof
        refine hof.mono ?_
        rintro e w3 ⟨rfl, h3⟩
        have b3 : Below w.heap.size w w3 := b2.trans (h3.mono b2.size)
        obtain ⟨sa, sb, sc, sd, se, sf, sz⟩ := B2.on h3
        clear h3
        go_wp2
        refine bodyPost_ret (v := .tuple #[.agg #[.int .u64 (u (nextv a).1.hi), .int .u64 (u (nextv a).1.lo), .bool (nextv a).1.v6], .bool true]) (by simp [*, results, Try.results12, go_sem] <;> rfl) rfl ⟨by rw [N1.out], ?_⟩
        go_grown

end Go.Proofs.Yteeeiobkjakmpaa
