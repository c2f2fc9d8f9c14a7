/-
  What Set, Mask, Fill and Next of the document's answer for layer 1 return. No condition.
-/
import Derived.Test.YtongbfnndphdaaaRefE
namespace Go.Proofs.Ytongbfnndphdaaa
open Go.RowKit

theorem Row.set {w : World} {g n : Nat} {f : Nat → Int} (h : Row w g n f) (k : Nat) (v : Int) (hk : k < n) : Row (w.setCell ⟨g, k, none⟩ (.int .i64 v)) g n (fun j => if j = k then v else f j) := by
  refine ⟨by simpa using h.1, fun j hj => ?_, fun j => by rw [World.frozen?_setCell]; exact h.2.2 j⟩
  by_cases e : j = k
  · subst e
    rw [World.cell?_setCell_same _ _ _ (h.2.1 j hj)]
    simp
  · rw [World.cell?_setCell_other _ _ _ _ (fun e' => e (by injection e' with _ e'; exact e'.symm)), h.2.1 j hj]
    simp [e]
theorem Row.congr {w : World} {g n : Nat} {f f' : Nat → Int} (h : Row w g n f) (he : ∀ j, j < n → f j = f' j) : Row w g n f' :=
  ⟨h.1, fun j hj => by rw [h.2.1 j hj, he j hj], h.2.2⟩
theorem of_row (a : Ad) (g c : Nat) (dl : Nat → Int) (w : World) (h : Row w g (wd a.v6) dl) (hb : ∀ j, j < wd a.v6 → 0 ≤ dl j ∧ dl j ≤ 1) :
    Calls Try.prog 60 #[.slice (some ⟨g, 0, none⟩) (wd a.v6) c] w fun e w' => e = .returned (.agg #[.int .u64 (u (ofv dl a.v6).hi), .int .u64 (u (ofv dl a.v6).lo), .bool (ofv dl a.v6).v6]) ∧ Below w.heap.size w w' :=
  of_any a.v6 g c dl w h.1 h.2.1 hb
theorem raw_bd (a : Ad) (j : Nat) (h : j < wd a.v6) : 0 ≤ rawv a j ∧ rawv a j ≤ 1 := rawv_bd a j (by have := wd_lb a.v6; omega)

theorem Box.far {wr : World} {b g k : Nat} {x : Ad} {v : Value} (h : Box wr b x) (hne : g ≠ b) : Box (wr.setCell ⟨g, k, none⟩ v) b x := by
  obtain ⟨h1, h2, h3, h4, h5, h6, h7⟩ := h
  refine ⟨?_, ?_, ?_, ?_, ?_, ?_, ?_⟩
  · rw [World.cell?_setCell_far _ _ _ _ hne]; exact h1
  · rw [World.cell?_setCell_far _ _ _ _ hne]; exact h2
  · rw [World.cell?_setCell_far _ _ _ _ hne]; exact h3
  · rw [World.frozen?_setCell]; exact h4
  · rw [World.frozen?_setCell]; exact h5
  · rw [World.frozen?_setCell]; exact h6
  · simpa using h7
theorem Box.on {w w' : World} {b : Nat} {x : Ad} (h : Box w b x) (hb : Below w.heap.size w w') : Box w' b x := by
  obtain ⟨h1, h2, h3, h4, h5, h6, h7⟩ := h
  exact cells3 hb h7 h1 h2 h3 h4 h5 h6
/-- No address. -/
def nil : Ad := ⟨0#64, 0#64, false⟩

set_option maxHeartbeats 1000000 in
theorem refSet_in (a : Ad) (k : Nat) (v : Int) (hk : k < wd a.v6) (w : World) :
    Calls Try.prog 42 #[.agg #[.int .u64 (u a.hi), .int .u64 (u a.lo), .bool a.v6], .int .i64 k, .int .i64 v] w fun e w' => e = .returned (.agg #[.int .u64 (u (setv a k v).hi), .int .u64 (u (setv a k v).lo), .bool (setv a k v).v6]) ∧ Below w.heap.size w w' := by
  have hw := wd_lb a.v6
  have t1 : decide (0 ≤ (k : Int)) = true := by simp
  have t2 : decide ((k : Int) < (wd a.v6 : Int)) = true := by simp; omega
  have Ho := Lib.hid (of_set a k v hk)
  go_enter Try.func42, Try.ntmps42
  go_wp2_with fail
  refine (refDigits_any a _).mono ?_
  rintro e w1 ⟨g, c, rfl, hg, hrow, hw1⟩
  have b1 := below_of (w := w) (by go_grown) hw1
  obtain ⟨pa, pb, pc, pd, pe, pf, pz⟩ := cells3 (b := w.heap.size) hw1 (by go_size) (by go_simp <;> rfl) (by go_simp <;> rfl) (by go_simp <;> rfl) (by go_simp <;> rfl) (by go_simp <;> rfl) (by go_simp <;> rfl)
  obtain ⟨qa, qb, qc, qd, qe, qf, qz⟩ := cells3 (b := w.heap.size + 1) hw1 (by go_size) (by go_simp <;> rfl) (by go_simp <;> rfl) (by go_simp <;> rfl) (by go_simp <;> rfl) (by go_simp <;> rfl) (by go_simp <;> rfl)
  have HA : Hid (Box w1 w.heap.size a) := Lib.hid ⟨pa, pb, pc, pd, pe, pf, pz⟩
  have HBox : Hid (Box w1 (w.heap.size + 1) nil) := Lib.hid ⟨qa, qb, qc, qd, qe, qf, qz⟩
  have hgw : w.heap.size + 1 + 1 ≤ g := by simpa using hg
  have HR := Lib.hid hrow
  clear hrow hw1 hg pa pb pc pd pe pf pz qa qb qc qd qe qf qz
  have ck := HR.out.2.1 k hk
  have fk := HR.out.2.2 k
  go_wp2_with fail
  generalize hW2 : World.setCell _ _ _ = W2
  have b2 : Below w.heap.size w W2 := by subst hW2; exact b1.setCell (by simp; omega) _
  have R2 : Row W2 g (wd a.v6) (fun j => if j = k then bits .and .i64 v 1 else rawv a j) := by subst hW2; exact HR.out.set k _ hk
  have B2 : Box W2 (w.heap.size + 1) nil := by subst hW2; exact HBox.out.far (by omega)
  clear hW2
  have hof := of_row a g c _ W2 R2 (fun j hj => by
    show 0 ≤ (if j = k then bits .and .i64 v 1 else rawv a j) ∧ (if j = k then bits .and .i64 v 1 else rawv a j) ≤ 1
    split
    · rw [and1_odd]; split <;> omega
    · exact raw_bd a j hj)
  rw [Ho.out] at hof
  refine hof.mono ?_
  rintro e w3 ⟨rfl, h3⟩
  have b3 : Below w.heap.size w w3 := b2.trans (h3.mono b2.size)
  obtain ⟨sa, sb, sc, sd, se, sf, sz⟩ := B2.on h3
  clear h3
  go_wp2
  refine bodyPost_ret (v := .agg #[.int .u64 (u (setv a k v).hi), .int .u64 (u (setv a k v).lo), .bool (setv a k v).v6]) (by simp [*, results, Try.results42, go_sem] <;> rfl) rfl ⟨rfl, ?_⟩
  go_grown

set_option maxHeartbeats 1000000 in
theorem refSet_out (a : Ad) (i : Int) (v : Int) (hi : ¬ (0 ≤ i ∧ i < wid a.v6)) (w : World) :
    Calls Try.prog 42 #[.agg #[.int .u64 (u a.hi), .int .u64 (u a.lo), .bool a.v6], .int .i64 i, .int .i64 v] w fun e w' => e = .returned (.agg #[.int .u64 (u (setv a i v).hi), .int .u64 (u (setv a i v).lo), .bool (setv a i v).v6]) ∧ Below w.heap.size w w' := by
  rw [set_out a i v hi]
  have hw := wd_lb a.v6
  rw [wid_wd] at hi
  have Ho := Lib.hid (of_raw a)
  by_cases h0 : 0 ≤ i
  · have t1 : decide (0 ≤ i) = true := by simp [h0]
    have t2 : decide (i < (wd a.v6 : Int)) = false := by simp; omega
    clear hi
    go_enter Try.func42, Try.ntmps42
    go_wp2_with fail
    refine (refDigits_any a _).mono ?_
    rintro e w1 ⟨g, c, rfl, hg, hrow, hw1⟩
    have b1 := below_of (w := w) (by go_grown) hw1
    obtain ⟨pa, pb, pc, pd, pe, pf, pz⟩ := cells3 (b := w.heap.size) hw1 (by go_size) (by go_simp <;> rfl) (by go_simp <;> rfl) (by go_simp <;> rfl) (by go_simp <;> rfl) (by go_simp <;> rfl) (by go_simp <;> rfl)
    obtain ⟨qa, qb, qc, qd, qe, qf, qz⟩ := cells3 (b := w.heap.size + 1) hw1 (by go_size) (by go_simp <;> rfl) (by go_simp <;> rfl) (by go_simp <;> rfl) (by go_simp <;> rfl) (by go_simp <;> rfl) (by go_simp <;> rfl)
    have HA : Hid (Box w1 w.heap.size a) := Lib.hid ⟨pa, pb, pc, pd, pe, pf, pz⟩
    have HBox : Hid (Box w1 (w.heap.size + 1) nil) := Lib.hid ⟨qa, qb, qc, qd, qe, qf, qz⟩
    have hgw : w.heap.size + 1 + 1 ≤ g := by simpa using hg
    have HR := Lib.hid hrow
    clear hrow hw1 hg pa pb pc pd pe pf pz qa qb qc qd qe qf qz
    go_wp2_with fail
    have hof := of_row a g c _ w1 HR.out (fun j hj => raw_bd a j hj)
    rw [Ho.out] at hof
    have b2 := b1
    have B2 := HBox.out
    refine hof.mono ?_
    rintro e w3 ⟨rfl, h3⟩
    have b3 : Below w.heap.size w w3 := b2.trans (h3.mono b2.size)
    obtain ⟨sa, sb, sc, sd, se, sf, sz⟩ := B2.on h3
    clear h3
    go_wp2
    refine bodyPost_ret (v := .agg #[.int .u64 (u (norm a).hi), .int .u64 (u (norm a).lo), .bool (norm a).v6]) (by simp [*, results, Try.results42, go_sem] <;> rfl) rfl ⟨rfl, ?_⟩
    go_grown
  · have t1 : decide (0 ≤ i) = false := by simp [h0]
    clear hi
    go_enter Try.func42, Try.ntmps42
    go_wp2_with fail
    refine (refDigits_any a _).mono ?_
    rintro e w1 ⟨g, c, rfl, hg, hrow, hw1⟩
    have b1 := below_of (w := w) (by go_grown) hw1
    obtain ⟨pa, pb, pc, pd, pe, pf, pz⟩ := cells3 (b := w.heap.size) hw1 (by go_size) (by go_simp <;> rfl) (by go_simp <;> rfl) (by go_simp <;> rfl) (by go_simp <;> rfl) (by go_simp <;> rfl) (by go_simp <;> rfl)
    obtain ⟨qa, qb, qc, qd, qe, qf, qz⟩ := cells3 (b := w.heap.size + 1) hw1 (by go_size) (by go_simp <;> rfl) (by go_simp <;> rfl) (by go_simp <;> rfl) (by go_simp <;> rfl) (by go_simp <;> rfl) (by go_simp <;> rfl)
    have HA : Hid (Box w1 w.heap.size a) := Lib.hid ⟨pa, pb, pc, pd, pe, pf, pz⟩
    have HBox : Hid (Box w1 (w.heap.size + 1) nil) := Lib.hid ⟨qa, qb, qc, qd, qe, qf, qz⟩
    have hgw : w.heap.size + 1 + 1 ≤ g := by simpa using hg
    have HR := Lib.hid hrow
    clear hrow hw1 hg pa pb pc pd pe pf pz qa qb qc qd qe qf qz
    go_wp2_with fail
    have hof := of_row a g c _ w1 HR.out (fun j hj => raw_bd a j hj)
    rw [Ho.out] at hof
    have b2 := b1
    have B2 := HBox.out
    refine hof.mono ?_
    rintro e w3 ⟨rfl, h3⟩
    have b3 : Below w.heap.size w w3 := b2.trans (h3.mono b2.size)
    obtain ⟨sa, sb, sc, sd, se, sf, sz⟩ := B2.on h3
    clear h3
    go_wp2
    refine bodyPost_ret (v := .agg #[.int .u64 (u (norm a).hi), .int .u64 (u (norm a).lo), .bool (norm a).v6]) (by simp [*, results, Try.results42, go_sem] <;> rfl) rfl ⟨rfl, ?_⟩
    go_grown
theorem refSet_any (a : Ad) (i v : Int) (w : World) :
    Calls Try.prog 42 #[.agg #[.int .u64 (u a.hi), .int .u64 (u a.lo), .bool a.v6], .int .i64 i, .int .i64 v] w fun e w' => e = .returned (.agg #[.int .u64 (u (setv a i v).hi), .int .u64 (u (setv a i v).lo), .bool (setv a i v).v6]) ∧ Below w.heap.size w w' := by
  by_cases h : 0 ≤ i ∧ i < wid a.v6
  · obtain ⟨k, rfl⟩ := Int.eq_ofNat_of_zero_le h.1
    exact refSet_in a k v (by rw [wid_wd] at h; omega) w
  · exact refSet_out a i v h w

set_option maxHeartbeats 1000000 in
theorem fromv_any (a : Ad) (n : Int) (M : Nat) (v : Int) (hM : M = (max n 0).toNat) (hv : 0 ≤ v ∧ v ≤ 1) (w : World) :
    Calls Try.prog 64 #[.agg #[.int .u64 (u a.hi), .int .u64 (u a.lo), .bool a.v6], .int .i64 n, .int .i64 v] w fun e w' => e = .returned (.agg #[.int .u64 (u (ofv (fun j => if M ≤ j then v else rawv a j) a.v6).hi), .int .u64 (u (ofv (fun j => if M ≤ j then v else rawv a j) a.v6).lo), .bool (ofv (fun j => if M ≤ j then v else rawv a j) a.v6).v6]) ∧ Below w.heap.size w w' := by
  have hw := wd_lb a.v6
  by_cases hn : n < 0
  · obtain rfl : M = 0 := by omega
    clear hM
    go_enter Try.func64, Try.ntmps64
    go_wp2_with fail
    refine (refDigits_any a _).mono ?_
    rintro e w1 ⟨g, c, rfl, hg, hrow, hw1⟩
    have b1 := below_of (w := w) (by go_grown) hw1
    obtain ⟨pa, pb, pc, pd, pe, pf, pz⟩ := cells3 (b := w.heap.size) hw1 (by go_size) (by go_simp <;> rfl) (by go_simp <;> rfl) (by go_simp <;> rfl) (by go_simp <;> rfl) (by go_simp <;> rfl) (by go_simp <;> rfl)
    obtain ⟨qa, qb, qc, qd, qe, qf, qz⟩ := cells3 (b := w.heap.size + 1) hw1 (by go_size) (by go_simp <;> rfl) (by go_simp <;> rfl) (by go_simp <;> rfl) (by go_simp <;> rfl) (by go_simp <;> rfl) (by go_simp <;> rfl)
    have HA : Hid (Box w1 w.heap.size a) := Lib.hid ⟨pa, pb, pc, pd, pe, pf, pz⟩
    have HBox : Hid (Box w1 (w.heap.size + 1) nil) := Lib.hid ⟨qa, qb, qc, qd, qe, qf, qz⟩
    have hgw : w.heap.size + 1 + 1 ≤ g := by simpa using hg
    have HR := Lib.hid hrow
    clear hrow hw1 hg pa pb pc pd pe pf pz qa qb qc qd qe qf qz
    go_wp2_with fail
    go_loopw [8] (fun i wr => ∃ x : Nat, 0 ≤ x ∧ (x ≤ wd a.v6 ∨ x = 0) ∧ i = .int .i64 x ∧ Hid (Row wr g (wd a.v6) (fun j => if 0 ≤ j ∧ j < x then v else rawv a j)) ∧ Hid (Box wr (w.heap.size + 1) nil) ∧ Below w.heap.size w wr) (fun i _ => wd a.v6 - (intOf i).toNat)
    case atStart =>
      refine ⟨0, by omega, .inr rfl, rfl, Lib.hid (HR.out.congr fun j hj => ?_), HBox, b1⟩
      rw [if_neg (by omega)]
    case round =>
      obtain ⟨x, hx0, hx1, rfl, hR, hX, hB⟩ := hrel
      by_cases hlt : x < wd a.v6
      · have hlt' : (x : Int) < (wd a.v6 : Int) := by omega
        have ck := hR.out.2.1 x hlt
        have fk := hR.out.2.2 x
        go_wp2_with fail
        refine ⟨⟨x + 1, by omega, .inl (by omega), by go_num, Lib.hid ((hR.out.set x v hlt).congr fun j hj => ?_), Lib.hid (hX.out.far (by omega)), hB.setCell (by simp; omega) _⟩, by simp [intOf]; omega⟩
        show (if j = x then v else if 0 ≤ j ∧ j < x then v else rawv a j) = if 0 ≤ j ∧ j < x + 1 then v else rawv a j
        by_cases e : j = x
        · subst e
          rw [if_pos rfl, if_pos (by omega)]
        · rw [if_neg e]
          by_cases e2 : 0 ≤ j ∧ j < x
          · rw [if_pos e2, if_pos (by omega)]
          · rw [if_neg e2, if_neg (by omega)]
      · have hlt' : ¬ (x : Int) < (wd a.v6 : Int) := by omega
        have R2 := hR.out.congr (f' := fun j => if 0 ≤ j then v else rawv a j) (fun j hj => by
          by_cases e : 0 ≤ j
          · rw [if_pos ⟨e, by omega⟩, if_pos e]
          · rw [if_neg (fun h => e h.1), if_neg e])
        have B2 := hX.out
        have b2 := hB
        clear hB
        have HH := Lib.hid (of_row a g c _ wr R2 (fun j hj => by
          show 0 ≤ (if 0 ≤ j then v else rawv a j) ∧ (if 0 ≤ j then v else rawv a j) ≤ 1
          split
          · exact hv
          · exact raw_bd a j hj))
        clear R2
        go_wp2_with fail
        refine HH.out.mono ?_
        rintro e w3 ⟨rfl, h3⟩
        have b3 : Below w.heap.size w w3 := b2.trans (h3.mono b2.size)
        obtain ⟨sa, sb, sc, sd, se, sf, sz⟩ := B2.on h3
        clear h3
        go_wp2
        refine bodyPost_ret (v := .agg #[.int .u64 (u (ofv (fun j => if 0 ≤ j then v else rawv a j) a.v6).hi), .int .u64 (u (ofv (fun j => if 0 ≤ j then v else rawv a j) a.v6).lo), .bool (ofv (fun j => if 0 ≤ j then v else rawv a j) a.v6).v6]) (by simp [*, results, Try.results64, go_sem] <;> rfl) rfl ⟨rfl, ?_⟩
        go_grown
  · obtain ⟨m, rfl⟩ := Int.eq_ofNat_of_zero_le (show 0 ≤ n by omega)
    obtain rfl : M = m := by omega
    clear hM
    go_enter Try.func64, Try.ntmps64
    go_wp2_with fail
    refine (refDigits_any a _).mono ?_
    rintro e w1 ⟨g, c, rfl, hg, hrow, hw1⟩
    have b1 := below_of (w := w) (by go_grown) hw1
    obtain ⟨pa, pb, pc, pd, pe, pf, pz⟩ := cells3 (b := w.heap.size) hw1 (by go_size) (by go_simp <;> rfl) (by go_simp <;> rfl) (by go_simp <;> rfl) (by go_simp <;> rfl) (by go_simp <;> rfl) (by go_simp <;> rfl)
    obtain ⟨qa, qb, qc, qd, qe, qf, qz⟩ := cells3 (b := w.heap.size + 1) hw1 (by go_size) (by go_simp <;> rfl) (by go_simp <;> rfl) (by go_simp <;> rfl) (by go_simp <;> rfl) (by go_simp <;> rfl) (by go_simp <;> rfl)
    have HA : Hid (Box w1 w.heap.size a) := Lib.hid ⟨pa, pb, pc, pd, pe, pf, pz⟩
    have HBox : Hid (Box w1 (w.heap.size + 1) nil) := Lib.hid ⟨qa, qb, qc, qd, qe, qf, qz⟩
    have hgw : w.heap.size + 1 + 1 ≤ g := by simpa using hg
    have HR := Lib.hid hrow
    clear hrow hw1 hg pa pb pc pd pe pf pz qa qb qc qd qe qf qz
    go_wp2_with fail
    go_loopw [8] (fun i wr => ∃ x : Nat, M ≤ x ∧ (x ≤ wd a.v6 ∨ x = M) ∧ i = .int .i64 x ∧ Hid (Row wr g (wd a.v6) (fun j => if M ≤ j ∧ j < x then v else rawv a j)) ∧ Hid (Box wr (w.heap.size + 1) nil) ∧ Below w.heap.size w wr) (fun i _ => wd a.v6 - (intOf i).toNat)
    case atStart =>
      refine ⟨M, by omega, .inr rfl, rfl, Lib.hid (HR.out.congr fun j hj => ?_), HBox, b1⟩
      rw [if_neg (by omega)]
    case round =>
      obtain ⟨x, hx0, hx1, rfl, hR, hX, hB⟩ := hrel
      by_cases hlt : x < wd a.v6
      · have hlt' : (x : Int) < (wd a.v6 : Int) := by omega
        have ck := hR.out.2.1 x hlt
        have fk := hR.out.2.2 x
        go_wp2_with fail
        refine ⟨⟨x + 1, by omega, .inl (by omega), by go_num, Lib.hid ((hR.out.set x v hlt).congr fun j hj => ?_), Lib.hid (hX.out.far (by omega)), hB.setCell (by simp; omega) _⟩, by simp [intOf]; omega⟩
        show (if j = x then v else if M ≤ j ∧ j < x then v else rawv a j) = if M ≤ j ∧ j < x + 1 then v else rawv a j
        by_cases e : j = x
        · subst e
          rw [if_pos rfl, if_pos (by omega)]
        · rw [if_neg e]
          by_cases e2 : M ≤ j ∧ j < x
          · rw [if_pos e2, if_pos (by omega)]
          · rw [if_neg e2, if_neg (by omega)]
      · have hlt' : ¬ (x : Int) < (wd a.v6 : Int) := by omega
        have R2 := hR.out.congr (f' := fun j => if M ≤ j then v else rawv a j) (fun j hj => by
          by_cases e : M ≤ j
          · rw [if_pos ⟨e, by omega⟩, if_pos e]
          · rw [if_neg (fun h => e h.1), if_neg e])
        have B2 := hX.out
        have b2 := hB
        clear hB
        have HH := Lib.hid (of_row a g c _ wr R2 (fun j hj => by
          show 0 ≤ (if M ≤ j then v else rawv a j) ∧ (if M ≤ j then v else rawv a j) ≤ 1
          split
          · exact hv
          · exact raw_bd a j hj))
        clear R2
        go_wp2_with fail
        refine HH.out.mono ?_
        rintro e w3 ⟨rfl, h3⟩
        have b3 : Below w.heap.size w w3 := b2.trans (h3.mono b2.size)
        obtain ⟨sa, sb, sc, sd, se, sf, sz⟩ := B2.on h3
        clear h3
        go_wp2
        refine bodyPost_ret (v := .agg #[.int .u64 (u (ofv (fun j => if M ≤ j then v else rawv a j) a.v6).hi), .int .u64 (u (ofv (fun j => if M ≤ j then v else rawv a j) a.v6).lo), .bool (ofv (fun j => if M ≤ j then v else rawv a j) a.v6).v6]) (by simp [*, results, Try.results64, go_sem] <;> rfl) rfl ⟨rfl, ?_⟩
        go_grown

end Go.Proofs.Ytongbfnndphdaaa
