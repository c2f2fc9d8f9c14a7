/-
  Routes added one behind the other with the document's answer, from none on: as layer 8's statements have it. Condition: the list lies where the argument says.
-/
import Derived.Test.YtggceecolfebjaaX1
import Derived.Test.YtggceecolfebjaaX2
import Derived.Test.YtggceecolfebjaaX3
import Derived.Deep.DeepCutAuto
import Derived.Deep.RegionHeld3
namespace Go.Proofs.Ytggceecolfebjaa
open Go.RowKit Go.Maps
set_option maxRecDepth 100000

theorem unl_snoc (l : List Int) (x : Int) : unl (l ++ [x]) = unl l + if x ∈ l then 0 else 1 := by
  rw [unl_perm (List.perm_append_comm : (l ++ [x]).Perm ([x] ++ l))]
  rfl
/-- How many unlike hops the first k have. -/
def unlK (T : List Pr) (k : Nat) : Nat := unl (hopsL (T.take k))
theorem unlK_succ (T : List Pr) {k : Nat} (h : k < T.length) : unlK T (k + 1) = unlK T k + if T[k].v ∈ hopsL (T.take k) then 0 else 1 := by
  unfold unlK hopsL
  rw [List.take_succ_eq_append_getElem h, List.map_append]
  exact unl_snoc _ _
theorem unlK_le (T : List Pr) (k : Nat) : unlK T k ≤ T.length := by
  unfold unlK
  have h1 := unl_le (hopsL (T.take k))
  unfold hopsL at h1 ⊢
  rw [List.length_map, List.length_take] at h1
  omega
/-- Is none of the first k of that hop? -/
def fstK (T : List Pr) (v : Int) (k : Nat) : Bool := (T.take k).all fun x => decide (x.v ≠ v)
theorem fstK_succ (T : List Pr) (v : Int) {k : Nat} (h : k < T.length) : fstK T v (k + 1) = (fstK T v k && decide (T[k].v ≠ v)) := by
  unfold fstK
  rw [List.take_succ_eq_append_getElem h, List.all_append]
  simp
theorem fstK_mem (T : List Pr) (v : Int) (k : Nat) : fstK T v k = !decide (v ∈ hopsL (T.take k)) := by
  unfold fstK
  rw [Bool.eq_iff_iff]
  simp only [List.all_eq_true, decide_eq_true_eq, Bool.not_eq_true', decide_eq_false_iff_not]
  constructor
  · intro h hm
    obtain ⟨x, hx, e⟩ := mem_hops.1 hm
    exact h x hx e
  · intro h x hx e
    exact h (mem_hops.2 ⟨x, hx, e⟩)

end Go.Proofs.Ytggceecolfebjaa

namespace Go.Proofs.Ytggceecolfebjaa
open Go.RowKit Go.Maps
set_option maxRecDepth 100000

section
variable {w : World} {A : Option Addr} {c : Nat} {L : List Pr}
set_option maxHeartbeats 4000000 in
theorem khops_any (hr : RdQ w A L) (hl : L.length ≤ 100000) : Calls Try.prog 51 #[.slice A L.length c] w fun e w' => e = .returned (.int .i64 (unl (hopsL L) : Int)) ∧ Below w.heap.size w w' := by
  have HRD := Lib.hid hr
  clear hr
  obtain ⟨R, hR⟩ : ∃ R : Nat, unl (hopsL L) = R := ⟨_, rfl⟩
  rw [hR]
  have HR := Lib.hid hR
  clear hR
  go_enter Try.func51, Try.ntmps51
  go_wp2_with fail
  go_loopw [3, 4] (fun v i wr => ∃ k : Nat, k ≤ L.length ∧ i = .int .i64 k ∧ v = .int .i64 (unlK L k : Int) ∧ Below w.heap.size w wr) (fun _ i _ => L.length - (RowKit.intOf i).toNat)
  case atStart => exact ⟨0, Nat.zero_le _, rfl, rfl, Below.refl _ _⟩
  case round =>
    obtain ⟨k, hk, rfl, rfl, hB⟩ := hrel
    have hub := unlK_le L k
    by_cases hlt : k < L.length
    · -- as rdq5, but all the cells' facts stay (hc)
      obtain ⟨g, off, rfl, hg, hc⟩ := HRD.out (by intro e; rw [e] at hlt; cases hlt)
      obtain ⟨c0, c1, c2, c3, c4⟩ := hc k hlt
      have d0 := (hB.cell (p := ⟨g, off + k * 5, none⟩) hg).trans c0
      have d1 := (hB.cell (p := ⟨g, off + k * 5 + 1, none⟩) hg).trans c1
      have d2 := (hB.cell (p := ⟨g, off + k * 5 + 2, none⟩) hg).trans c2
      have d3 := (hB.cell (p := ⟨g, off + k * 5 + 3, none⟩) hg).trans c3
      have d4 := (hB.cell (p := ⟨g, off + k * 5 + 4, none⟩) hg).trans c4
      have gz : g < wr.heap.size := Nat.lt_of_lt_of_le hg hB.size
      have HC := Lib.hid hc
      clear c0 c1 c2 c3 c4 hc
      have hus := unlK_succ L hlt
      have hfm := fstK_mem L L[k].v k
      have hfs := fun j (h : j < L.length) => fstK_succ L L[k].v h
      obtain ⟨y, hy⟩ : ∃ y, L[k] = y := ⟨_, rfl⟩
      rw [hy] at d0 d1 d2 d3 d4 hus hfm
      simp only [hy] at hfs
      obtain ⟨n0, hn0⟩ : ∃ n0, unlK L k = n0 := ⟨_, rfl⟩
      rw [hn0] at hus hub ⊢
      have HUS := Lib.hid hus
      have HFM := Lib.hid hfm
      have HFS := Lib.hid hfs
      clear hus hfm hfs hy hn0 d0 d1 d2 d3
      obtain ⟨w5, rfl⟩ : ∃ w5, w5 = wr := ⟨_, rfl⟩
      go_wp2_with fail
      go_loopw [5] (fun i wx => ∃ j : Nat, j ≤ k ∧ i = .int .i64 j ∧ fstK L y.v j = true ∧ Below w5.heap.size w5 wx) (fun i _ => k - (RowKit.intOf i).toNat)
      case atStart => exact ⟨0, Nat.zero_le _, rfl, rfl, Below.refl _ _⟩
      case round =>
        obtain ⟨j, hj, rfl, hf, hBx⟩ := hrel
        have HF := Lib.hid hf
        have hB2 := hB.trans (hBx.mono hB.size)
        replace d4 := (hBx.cell (p := ⟨g, off + k * 5 + 4, none⟩) gz).trans d4
        have gz2 : g < wr.heap.size := Nat.lt_of_lt_of_le gz hBx.size
        clear hf
        by_cases hjk : j < k
        · obtain ⟨-, -, -, -, f4⟩ := HC.out j (by omega)
          replace f4 := (hB2.cell (p := ⟨g, off + j * 5 + 4, none⟩) hg).trans f4
          have hfs := HFS.out j (by omega)
          rw [HF.out] at hfs
          obtain ⟨z, hz⟩ : ∃ z, L[j] = z := ⟨_, rfl⟩
          rw [hz] at f4 hfs
          have HFJ := Lib.hid hfs
          have HZ := Lib.hid hz
          have jt : decide ((j : Int) < (k : Int)) = true := by simp; omega
          have j1 : (j : Int) < (L.length : Int) := by omega
          have k1 : (k : Int) < (L.length : Int) := by omega
          clear hfs hz HFS HC
          obtain ⟨W, rfl⟩ : ∃ W, W = wr := ⟨_, rfl⟩
          have Lf4 := fun x : Later W.heap.size W => (x.cell (p := ⟨g, off + j * 5 + 4, none⟩) gz2).trans f4
          have Ld4 := fun x : Later W.heap.size W => (x.cell (p := ⟨g, off + k * 5 + 4, none⟩) gz2).trans d4
          by_cases hv : z.v = y.v
          · have tv : (z.v == y.v) = true := by simp [hv]
            have hnf : Hid (fstK L y.v (j + 1) = false) := Lib.hid (by rw [HFJ.out]; simp [hv])
            have HQ : Hid (unlK L (k + 1) = n0) := Lib.hid (by
              have hm : z ∈ L.take k := by
                rw [← HZ.out, List.mem_take_iff_getElem]
                exact ⟨j, by omega, rfl⟩
              rw [HUS.out, if_pos (mem_hops.2 ⟨z, hm, hv⟩), Nat.add_zero])
            go_wp2_with fail
            refine region_later W.heap.size (by kernel_rfl) (by kernel_rfl) ?_
            repeat (go_big_quiet_step (fail))
            refine wpQuiet_nil ?_
            intro x
            have hx := x.below
            generalize x.at = V at hx ⊢
            clear x Lf4 Ld4 f4 d4
            have bV := hBx.trans (hx.mono hBx.size)
            have bV2 := hB2.trans (hx.mono hB2.size)
            clear hx
            have tj : ((j : Int) == (k : Int)) = false := by simp; omega
            clear jt j1 k1
            go_wp2
            go_roundw
            case rel => exact ⟨k + 1, by omega, by go_num, by rw [HQ.out], bV2⟩
            case measure => simp [RowKit.intOf]; omega
          · have tv : (z.v == y.v) = false := by simp [hv]
            have hnf : Hid (fstK L y.v (j + 1) = true) := Lib.hid (by rw [HFJ.out]; simp [hv])
            go_wp2_with fail
            refine region_later W.heap.size (by kernel_rfl) (by kernel_rfl) ?_
            repeat (go_big_quiet_step (fail))
            refine wpQuiet_nil ?_
            intro x
            have hx := x.below
            generalize x.at = V at hx ⊢
            clear x Lf4 Ld4 f4 d4
            have bV := hBx.trans (hx.mono hBx.size)
            have bV2 := hB2.trans (hx.mono hB2.size)
            clear hx
            clear jt j1 k1
            go_wp2
            go_roundw
            case rel => exact ⟨j + 1, by omega, by go_num, hnf.out, bV⟩
            case measure => simp [RowKit.intOf]; omega
        · have e : k = j := by omega
          subst e
          have HQ : Hid (unlK L (k + 1) = n0 + 1) := Lib.hid (by
            have h1 := HFM.out
            rw [HF.out] at h1
            rw [HUS.out, if_neg (by simpa using h1.symm)])
          have jt : decide ((k : Int) < (k : Int)) = false := by simp
          have tj : ((k : Int) == (k : Int)) = true := by simp
          have hn9 : (n0 : Int) ≤ 100000 := by omega
          obtain ⟨W, rfl⟩ : ∃ W, W = wr := ⟨_, rfl⟩
          go_wp2_with fail
          refine region_later W.heap.size (by kernel_rfl) (by kernel_rfl) ?_
          repeat (go_big_quiet_step (fail))
          refine wpQuiet_nil ?_
          intro x
          have hx := x.below
          generalize x.at = V at hx ⊢
          clear x d4 HC HFS HFM HUS HF jt
          have bV2 := hB2.trans (hx.mono hB2.size)
          clear hx
          go_wp2
          go_roundw
          case rel => exact ⟨k + 1, by omega, by go_num, by rw [HQ.out]; rfl, bV2⟩
          case measure => simp [RowKit.intOf]; omega
    · obtain rfl : k = L.length := by omega
      have e : unlK L L.length = R := by unfold unlK; rw [List.take_length]; exact HR.out
      rw [e]
      have kt : decide ((L.length : Int) < (L.length : Int)) = false := by simp
      clear e
      go_wp2
      go_ret
      exact ⟨rfl, hB⟩
end

end Go.Proofs.Ytggceecolfebjaa

namespace Go.Proofs.Ytggceecolfebjaa
open Go.RowKit Go.Maps
set_option maxRecDepth 100000

/-- Routes of the document's answer lie in a block. -/
def VBox (w : World) (b : Nat) (A : Option Addr) (l c : Nat) (most n h : Int) : Prop := w.cell? ⟨b, 0, none⟩ = some (.slice A l c) ∧ w.cell? ⟨b, 1, none⟩ = some (.int .i64 most) ∧ w.cell? ⟨b, 2, none⟩ = some (.int .i64 n) ∧ w.cell? ⟨b, 3, none⟩ = some (.int .i64 h) ∧ b < w.heap.size
theorem VBox.keep {w w' : World} {b l c : Nat} {A : Option Addr} {most n h : Int} (H : VBox w b A l c most n h) (hb : Below w.heap.size w w') : VBox w' b A l c most n h := by
  obtain ⟨h0, h1, h2, h3, hz⟩ := H
  exact ⟨(hb.cell hz).trans h0, (hb.cell hz).trans h1, (hb.cell hz).trans h2, (hb.cell hz).trans h3, Nat.lt_of_lt_of_le hz hb.size⟩
set_option maxHeartbeats 1000000 in
theorem knew5_any (w : World) : Calls Try.prog 48 #[] w fun e w' => e = .returned (.agg #[.slice none 0 0, .int .i64 2]) ∧ Below w.heap.size w w' := by
  go_enter Try.func48, Try.ntmps48
  go_wp2
  refine bodyPost_ret (v := .agg #[.slice none 0 0, .int .i64 2]) (by simp [*, results, Try.results48, go_sem] <;> rfl) rfl ⟨rfl, ?_⟩
  go_grown
set_option maxHeartbeats 1000000 in
theorem knew6_any (w : World) : Calls Try.prog 23 #[.int .i64 200, .int .i64 200] w fun e w' => e = .returned (.agg #[.slice none 0 0, .int .i64 2, .int .i64 200, .int .i64 200]) ∧ Below w.heap.size w w' := by
  go_enter Try.func23, Try.ntmps23
  go_wp2_with fail
  refine (knew5_any _).mono ?_
  rintro e w1 ⟨rfl, hw1⟩
  have b1 : Below w.heap.size w w1 := below_of (by go_grown) hw1
  have h3 : w1.heap[w.heap.size]? = some (.cells #[.slice none 0 0, .int .i64 0, .int .i64 0, .int .i64 0] 35 (0, 0)) := (hw1.block (w.heap.size) (by go_size)).trans (by repeat (first | (refine hp_new ?_; (simp; done)) | (refine hp_old ?_ ?_; · (first | (simp; done) | (simp; omega)))))
  have r0 : w1.cell? ⟨w.heap.size, 0, none⟩ = some (.slice none 0 0) := by rw [cell_row h3]; rfl
  have r1 : w1.cell? ⟨w.heap.size, 1, none⟩ = some (.int .i64 0) := by rw [cell_row h3]; rfl
  have r2 : w1.cell? ⟨w.heap.size, 2, none⟩ = some (.int .i64 0) := by rw [cell_row h3]; rfl
  have r3 : w1.cell? ⟨w.heap.size, 3, none⟩ = some (.int .i64 0) := by rw [cell_row h3]; rfl
  have q0 := frozen_of_row w1 (w.heap.size) 0 _ _ h3
  have q1 := frozen_of_row w1 (w.heap.size) 1 _ _ h3
  have q2 := frozen_of_row w1 (w.heap.size) 2 _ _ h3
  have q3 := frozen_of_row w1 (w.heap.size) 3 _ _ h3
  clear hw1 h3
  go_wp2
  refine bodyPost_ret (v := .agg #[.slice none 0 0, .int .i64 2, .int .i64 200, .int .i64 200]) (by simp [*, results, Try.results23, go_sem] <;> rfl) rfl ⟨rfl, ?_⟩
  exact b1.trans (((((Below.refl _ _).setCell (by simp) _).setCell (by simp) _).setCell (by simp) _).setCell (by simp) _)
set_option maxHeartbeats 1000000 in
theorem kroute_any (x : Pr) (b : Bool) (w : World) : Calls Try.prog 108 #[.agg #[.int .u64 (u x.p.a.hi), .int .u64 (u x.p.a.lo), .bool x.p.a.v6, .int .i64 x.p.n, .int .i64 x.v], .bool b] w fun e w' => e = .returned (.tuple #[.agg #[.int .u64 (u x.p.a.hi), .int .u64 (u x.p.a.lo), .bool x.p.a.v6, .int .i64 x.p.n, .int .i64 x.v], .bool b]) ∧ Below w.heap.size w w' := by
  go_enter Try.func108, Try.ntmps108
  go_wp2
  refine bodyPost_ret (v := .tuple #[.agg #[.int .u64 (u x.p.a.hi), .int .u64 (u x.p.a.lo), .bool x.p.a.v6, .int .i64 x.p.n, .int .i64 x.v], .bool b]) (by simp [*, results, Try.results108, go_sem] <;> rfl) rfl ⟨rfl, ?_⟩
  go_grown

section
variable {w : World} {A : Option Addr} {c : Nat} {L : List Pr}
set_option maxHeartbeats 1000000 in
theorem kins6_any (hr : RdQ w A L) (hl : L.length ≤ 1000000) (most n h : Int) (p : Pf) : Calls Try.prog 55 #[.agg #[.slice A L.length c, .int .i64 most, .int .i64 n, .int .i64 h], .agg #[.int .u64 (u p.a.hi), .int .u64 (u p.a.lo), .bool p.a.v6, .int .i64 p.n]] w fun e w' => e = .returned (.bool (insL L p)) ∧ Below w.heap.size w w' := by
  have HRD := Lib.hid hr
  clear hr
  go_enter Try.func55, Try.ntmps55
  go_wp2_with fail
  refine (kins_any (HRD.out.keep (B := w.heap.size) (by go_grown) (Nat.le_refl _)) hl most p).mono ?_
  rintro e w1 ⟨rfl, hw1⟩
  have b1 : Below w.heap.size w w1 := below_of (by go_grown) hw1
  clear hw1
  go_wp2
  go_ret
  exact ⟨rfl, b1⟩
set_option maxHeartbeats 2000000 in
theorem kgov_any (hr : RdQ w A L) (hl : L.length ≤ 1000000) (most n h : Int) (p : Pf) : Calls Try.prog 86 #[.agg #[.slice A L.length c, .int .i64 most, .int .i64 n, .int .i64 h], .agg #[.int .u64 (u p.a.hi), .int .u64 (u p.a.lo), .bool p.a.v6, .int .i64 p.n]] w (OptPost w (govL L p)) := by
  have HRD := Lib.hid hr
  clear hr
  have hfl := List.length_filter_le (fun x : Pr => pcov x.p p) L
  have ca := fun W (hr : RdQ W A L) => kabove_any (c := c) hr hl most p
  unfold govL
  obtain ⟨F, hF⟩ : ∃ F, (L.filter fun x => pcov x.p p) = F := ⟨_, rfl⟩
  rw [hF] at hfl ca ⊢
  have CA := Lib.hid ca
  clear ca hF
  go_enter Try.func86, Try.ntmps86
  go_wp2_with fail
  refine (CA.out _ (HRD.out.keep (B := w.heap.size) (by go_grown) (Nat.le_refl _))).mono ?_
  rintro e w5 ⟨v5, rfl, ho5, hw5⟩
  have b5 : Below w.heap.size w w5 := below_of (by go_grown) hw5
  have h5 : w5.heap[w.heap.size + 1 + 1]? = some (.cells #[.int .u64 0, .int .u64 0, .bool false, .int .i64 0, .int .i64 0] 65 (0, 0)) := (hw5.block (w.heap.size + 1 + 1) (by go_size)).trans (by repeat (first | (refine hp_new ?_; (simp; done)) | (refine hp_old ?_ ?_; · (first | (simp; done) | (simp; omega)))))
  have z5 := lt_of_block h5
  have HO := Lib.hid ho5
  obtain ⟨A5, c5, rfl, -⟩ := own_val ho5
  clear ho5 hw5 CA HRD
  rcases Nat.eq_zero_or_pos F.length with hl0 | hl0
  · have hF0 : F = [] := List.eq_nil_of_length_eq_zero hl0
    subst hF0
    have r0 : w5.cell? ⟨w.heap.size + 1 + 1, 0, none⟩ = some (.int .u64 0) := by rw [cell_row h5]; rfl
    have r1 : w5.cell? ⟨w.heap.size + 1 + 1, 1, none⟩ = some (.int .u64 0) := by rw [cell_row h5]; rfl
    have r2 : w5.cell? ⟨w.heap.size + 1 + 1, 2, none⟩ = some (.bool false) := by rw [cell_row h5]; rfl
    have r3 : w5.cell? ⟨w.heap.size + 1 + 1, 3, none⟩ = some (.int .i64 0) := by rw [cell_row h5]; rfl
    have r4 : w5.cell? ⟨w.heap.size + 1 + 1, 4, none⟩ = some (.int .i64 0) := by rw [cell_row h5]; rfl
    have q0 := frozen_of_row w5 (w.heap.size + 1 + 1) 0 _ _ h5
    have q1 := frozen_of_row w5 (w.heap.size + 1 + 1) 1 _ _ h5
    have q2 := frozen_of_row w5 (w.heap.size + 1 + 1) 2 _ _ h5
    have q3 := frozen_of_row w5 (w.heap.size + 1 + 1) 3 _ _ h5
    have q4 := frozen_of_row w5 (w.heap.size + 1 + 1) 4 _ _ h5
    clear h5
    go_wp2
    refine bodyPost_ret (v := .tuple #[.agg #[.int .u64 0, .int .u64 0, .bool false, .int .i64 0, .int .i64 0], .bool false]) (by simp [*, results, Try.results86, go_sem] <;> rfl) rfl ⟨rfl, ?_⟩
    exact b5.trans ((((((Below.refl _ _).setCell (by simp; omega) _).setCell (by simp; omega) _).setCell (by simp; omega) _).setCell (by simp; omega) _).setCell (by simp; omega) _)
  · obtain ⟨k, hk⟩ : ∃ k, F.length = k + 1 := ⟨F.length - 1, by omega⟩
    have hkl : k < F.length := by omega
    have hgo : F.getLast? = some F[k] := by
      rw [List.getLast?_eq_getElem?, hk, Nat.add_sub_cancel, List.getElem?_eq_getElem hkl]
    obtain ⟨g, cg, eg, -, zg, hcc⟩ := row_cell HO.out rfl hkl
    simp only [Value.slice.injEq, true_and] at eg
    obtain ⟨rfl, rfl⟩ := eg
    have m0 : w5.cell? ⟨g, k * 5, none⟩ = some (.int .u64 (u F[k].p.a.hi)) := hcc 0 (by omega)
    have m1 : w5.cell? ⟨g, k * 5 + 1, none⟩ = some (.int .u64 (u F[k].p.a.lo)) := hcc 1 (by omega)
    have m2 : w5.cell? ⟨g, k * 5 + 2, none⟩ = some (.bool F[k].p.a.v6) := hcc 2 (by omega)
    have m3 : w5.cell? ⟨g, k * 5 + 3, none⟩ = some (.int .i64 F[k].p.n) := hcc 3 (by omega)
    have m4 : w5.cell? ⟨g, k * 5 + 4, none⟩ = some (.int .i64 F[k].v) := hcc 4 (by omega)
    generalize F[k] = y at m0 m1 m2 m3 m4 hgo
    have HGO := Lib.hid hgo
    obtain ⟨K, hK⟩ : ∃ K, F.length = K := ⟨_, rfl⟩
    have t1 : ((K : Int) == 0) = false := by simp; omega
    have hkk : (K : Int) - 1 = (k : Int) := by omega
    have hkn : k < K := by omega
    have hk9 : K ≤ 5000000 := by omega
    rw [hK]
    clear hK
    have Z5 := Lib.hid z5
    clear hk hkl hl0 hfl hgo hcc HO hl z5
    go_wp2_with fail
    refine (kroute_any y true _).mono ?_
    rintro e w6 ⟨rfl, hw6⟩
    have h6 := (hw6.block (w.heap.size + 1 + 1) Z5.out).trans h5
    have b6 := b5.trans (hw6.mono b5.size)
    have r0 : w6.cell? ⟨w.heap.size + 1 + 1, 0, none⟩ = some (.int .u64 0) := by rw [cell_row h6]; rfl
    have r1 : w6.cell? ⟨w.heap.size + 1 + 1, 1, none⟩ = some (.int .u64 0) := by rw [cell_row h6]; rfl
    have r2 : w6.cell? ⟨w.heap.size + 1 + 1, 2, none⟩ = some (.bool false) := by rw [cell_row h6]; rfl
    have r3 : w6.cell? ⟨w.heap.size + 1 + 1, 3, none⟩ = some (.int .i64 0) := by rw [cell_row h6]; rfl
    have r4 : w6.cell? ⟨w.heap.size + 1 + 1, 4, none⟩ = some (.int .i64 0) := by rw [cell_row h6]; rfl
    have q0 := frozen_of_row w6 (w.heap.size + 1 + 1) 0 _ _ h6
    have q1 := frozen_of_row w6 (w.heap.size + 1 + 1) 1 _ _ h6
    have q2 := frozen_of_row w6 (w.heap.size + 1 + 1) 2 _ _ h6
    have q3 := frozen_of_row w6 (w.heap.size + 1 + 1) 3 _ _ h6
    have q4 := frozen_of_row w6 (w.heap.size + 1 + 1) 4 _ _ h6
    clear h6 h5 hw6 m0 m1 m2 m3 m4
    go_wp2
    refine bodyPost_ret (v := .tuple #[.agg #[.int .u64 (u y.p.a.hi), .int .u64 (u y.p.a.lo), .bool y.p.a.v6, .int .i64 y.p.n, .int .i64 y.v], .bool true]) (by simp [*, results, Try.results86, go_sem] <;> rfl) rfl ⟨by rw [HGO.out]; rfl, ?_⟩
    exact b6.trans ((((((Below.refl _ _).setCell (by simp; omega) _).setCell (by simp; omega) _).setCell (by simp; omega) _).setCell (by simp; omega) _).setCell (by simp; omega) _)
end

end Go.Proofs.Ytggceecolfebjaa

namespace Go.Proofs.Ytggceecolfebjaa
open Go.RowKit Go.Maps
set_option maxRecDepth 100000

def KAddPost (w : World) (n h : Int) (Z : List Pr) (E : Int) (e : Ending) (w' : World) : Prop := ∃ A' c' most', e = .returned (.tuple #[.agg #[.slice A' Z.length c', .int .i64 most', .int .i64 n, .int .i64 h], .int .i64 E]) ∧ RdQ w' A' Z ∧ (0 ≤ most' ∧ most' ≤ 2000000) ∧ Below w.heap.size w w'
theorem put_ne (p : Pf) (k : Int) (L : List Pr) : putL p k L ≠ [] := by
  cases L with
  | nil => simp [putL]
  | cons x l =>
    unfold putL
    split
    · simp
    · split <;> simp
section
variable {w : World} {A : Option Addr} {c : Nat} {L : List Pr}
set_option maxHeartbeats 8000000 in
theorem kadd_any (hr : RdQ w A L) (hs : Srt L) (hl : L.length ≤ 5000) (most : Int) (hmo : 0 ≤ most ∧ most ≤ 2000000) (n h : Int) (_ : 0 ≤ n ∧ n ≤ 4096) (_ : 0 ≤ h ∧ h ≤ 65536) (p : Pf) (k : Int) :
    Calls Try.prog 24 #[.agg #[.slice A L.length c, .int .i64 most, .int .i64 n, .int .i64 h], .agg #[.int .u64 (u p.a.hi), .int .u64 (u p.a.lo), .bool p.a.v6, .int .i64 p.n], .int .i64 k] w (KAddPost w n h (addQ n h L p k) (addE n h L p k)) := by
  have HRD := Lib.hid hr
  have key : ∀ E w', Below w.heap.size w w' → KAddPost w n h L E (.returned (.tuple #[.agg #[.slice A L.length c, .int .i64 most, .int .i64 n, .int .i64 h], .int .i64 E])) w' := fun E w' hb => ⟨A, c, most, rfl, hr.keep hb (Nat.le_refl _), hmo, hb⟩
  have cs := rpsane_any p
  have cp := fun W (hr : RdQ W A L) (hp : psane p = true) => kput_yes (c := c) hr hs (by omega) most (by omega) p k hp
  have hps := fun (hp : psane p = true) => put_srt (v := k) hs hp
  have hpl := fun (hp : psane p = true) => put_len (v := k) hs hp
  have hne : putL p k L ≠ [] := put_ne p k L
  have hfb : fitsB n h L p k = (decide (((putL p k L).length : Int) ≤ n) && decide ((unl (hopsL (putL p k L)) : Int) ≤ h)) := rfl
  clear hr
  cases hp : psane p
  · have e1 : addE n h L p k = 1 := by unfold addE; rw [hp]; rfl
    have e2 : addQ n h L p k = L := by unfold addQ; rw [e1]; rfl
    rw [e1, e2]
    rw [hp] at cs
    have CS := Lib.hid cs
    have KEY := Lib.hid (key 1)
    clear cs cp hps hpl hne hfb key hp e1 e2 hs
    go_enter Try.func24, Try.ntmps24
    go_wp2_with fail
    refine (CS.out _).mono ?_
    rintro e w1 ⟨rfl, hw1⟩
    have b1 : Below w.heap.size w w1 := below_of (by go_grown) hw1
    have hV : VBox w1 w.heap.size A L.length c most n h := VBox.keep (by refine ⟨?_, ?_, ?_, ?_, ?_⟩ <;> first | (go_simp; done) | (go_simp <;> rfl) | go_size) hw1
    have hP : PBox w1 (w.heap.size + 1) p := PBox.keep (by exact ⟨by go_simp <;> rfl, by go_simp <;> rfl, by go_simp <;> rfl, by go_simp <;> rfl, by go_simp <;> rfl, by go_simp <;> rfl, by go_simp <;> rfl, by go_simp <;> rfl, by go_size⟩) hw1
    have h3 : w1.heap[w.heap.size + 1 + 1]? = some (.cells #[.slice none 0 0, .int .i64 0, .int .i64 0, .int .i64 0] 35 (0, 0)) := (hw1.block (w.heap.size + 1 + 1) (by go_size)).trans (by repeat (first | (refine hp_new ?_; (simp; done)) | (refine hp_old ?_ ?_; · (first | (simp; done) | (simp; omega)))))
    have z3 := lt_of_block h3
    obtain ⟨v0, v1, v2, v3, vz⟩ := id hV
    clear hw1 CS
    clear hV hP
    -- w1: the world, b1: its Below, 1: the errno
    have r0 : w1.cell? ⟨w.heap.size + 1 + 1, 0, none⟩ = some (.slice none 0 0) := by rw [cell_row h3]; rfl
    have r1 : w1.cell? ⟨w.heap.size + 1 + 1, 1, none⟩ = some (.int .i64 0) := by rw [cell_row h3]; rfl
    have r2 : w1.cell? ⟨w.heap.size + 1 + 1, 2, none⟩ = some (.int .i64 0) := by rw [cell_row h3]; rfl
    have r3 : w1.cell? ⟨w.heap.size + 1 + 1, 3, none⟩ = some (.int .i64 0) := by rw [cell_row h3]; rfl
    have q0 := frozen_of_row w1 (w.heap.size + 1 + 1) 0 _ _ h3
    have q1 := frozen_of_row w1 (w.heap.size + 1 + 1) 1 _ _ h3
    have q2 := frozen_of_row w1 (w.heap.size + 1 + 1) 2 _ _ h3
    have q3 := frozen_of_row w1 (w.heap.size + 1 + 1) 3 _ _ h3
    clear h3
    go_wp2
    refine bodyPost_ret (v := .tuple #[.agg #[.slice A L.length c, .int .i64 most, .int .i64 n, .int .i64 h], .int .i64 1]) (by simp [*, results, Try.results24, go_sem] <;> rfl) rfl ?_
    exact KEY.out _ ((b1).trans (((((Below.refl _ _).setCell (by simp; omega) _).setCell (by simp; omega) _).setCell (by simp; omega) _).setCell (by simp; omega) _))
  · rw [hp] at cs
    have CS := Lib.hid cs
    by_cases hk : 0 ≤ k ∧ k ≤ 65535
    · have hZs := hps hp
      have hZl := hpl hp
      have cp' := fun W hr => cp W hr hp
      obtain ⟨Z, hZ⟩ : ∃ Z, putL p k L = Z := ⟨_, rfl⟩
      rw [hZ] at hZs hZl cp' hne hfb
      have hZ9 : Z.length ≤ 5001 := by rw [hZl]; split <;> omega
      have ch := fun W B d (hr : RdQ W B Z) => khops_any (c := d) hr (by omega)
      have hnb := nodes_bd Z hZs.1
      obtain ⟨U, hU⟩ : ∃ U, unl (hopsL Z) = U := ⟨_, rfl⟩
      rw [hU] at ch hfb
      obtain ⟨NN, hNN⟩ : ∃ NN, Z.length = NN := ⟨_, rfl⟩
      obtain ⟨R, hR⟩ : ∃ R, max most (nodesL Z) = R := ⟨_, rfl⟩
      have hRb : 0 ≤ R ∧ R ≤ 2000000 := by omega
      rw [hNN, hR] at cp'
      rw [hNN] at ch hfb hZ9
      have CP := Lib.hid cp'
      have CH := Lib.hid ch
      have hk1 : decide (k < 0) = false := by simp; omega
      have hk2 : decide (65535 < k) = false := by simp; omega
      have HNE := Lib.hid hne
      have HFB := Lib.hid hfb
      have HNN := Lib.hid hNN
      have hE : addE n h L p k = if fitsB n h L p k = true then 0 else 3 := by unfold addE; rw [if_pos hp, if_pos hk]
      have hQ : addE n h L p k = 0 → addQ n h L p k = Z := fun e => by unfold addQ; rw [if_pos e]; exact hZ
      have hQ' : addE n h L p k = 3 → addQ n h L p k = L := fun e => by unfold addQ; rw [if_neg (by rw [e]; decide)]
      have HE := Lib.hid hE
      have HQ := Lib.hid hQ
      have HQ' := Lib.hid hQ'
      have KEY := Lib.hid (key 3)
      clear cs cp cp' ch hps hpl hne hfb key hZs hZl hZ hnb hU hNN hR hE hQ hQ' hs hp hk
      by_cases g1 : n < (NN : Int)
      · have e1 : addE n h L p k = 3 := by rw [HE.out, HFB.out, decide_eq_false (by omega)]; rfl
        rw [e1, HQ'.out e1]
        have tg : decide (n < (NN : Int)) = true := decide_eq_true g1
        clear e1 g1
        go_enter Try.func24, Try.ntmps24
        go_wp2_with fail
        refine (CS.out _).mono ?_
        rintro e w1 ⟨rfl, hw1⟩
        have b1 : Below w.heap.size w w1 := below_of (by go_grown) hw1
        have hV : VBox w1 w.heap.size A L.length c most n h := VBox.keep (by refine ⟨?_, ?_, ?_, ?_, ?_⟩ <;> first | (go_simp; done) | (go_simp <;> rfl) | go_size) hw1
        have hP : PBox w1 (w.heap.size + 1) p := PBox.keep (by exact ⟨by go_simp <;> rfl, by go_simp <;> rfl, by go_simp <;> rfl, by go_simp <;> rfl, by go_simp <;> rfl, by go_simp <;> rfl, by go_simp <;> rfl, by go_simp <;> rfl, by go_size⟩) hw1
        have h3 : w1.heap[w.heap.size + 1 + 1]? = some (.cells #[.slice none 0 0, .int .i64 0, .int .i64 0, .int .i64 0] 35 (0, 0)) := (hw1.block (w.heap.size + 1 + 1) (by go_size)).trans (by repeat (first | (refine hp_new ?_; (simp; done)) | (refine hp_old ?_ ?_; · (first | (simp; done) | (simp; omega)))))
        have z3 := lt_of_block h3
        obtain ⟨v0, v1, v2, v3, vz⟩ := id hV
        clear hw1 CS
        obtain ⟨pa, pb, pc, pg, -, -, -, -, pz⟩ := id hP
        have HV := Lib.hid hV
        clear hV hP
        go_wp2_with fail
        refine (CP.out _ (HRD.out.keep b1 (Nat.le_refl _))).mono ?_
        rintro e w2 ⟨A', c', rfl, hrz, hG, hw2⟩
        have b2 := b1.trans (hw2.mono b1.size)
        have HG : Hid (∀ g off, A' = some ⟨g, off, none⟩ → Z ≠ [] → w1.heap.size ≤ g) := Lib.hid hG
        replace h3 := (hw2.block _ z3).trans h3
        have HV2 := Lib.hid (HV.out.keep hw2)
        have y2 := hw2.size
        have HRZ2 := Lib.hid hrz
        clear hrz hG hw2 HV pa pb pc pg pz v0 v1 v2 v3 vz CP
        go_upto_region 6 with fail
        generalize hW : World.alloc _ _ = W
        have hBW : Below w2.heap.size w2 W := by subst hW; go_grown
        have hK : KBox W w2.heap.size A' NN c' R := by subst hW; exact (by refine ⟨?_, ?_, ?_⟩ <;> first | (go_simp; done) | (go_simp <;> rfl) | go_size)
        obtain ⟨k0, k1, kz⟩ := id hK
        replace h3 := (hBW.block _ (by omega)).trans h3
        obtain ⟨v0, v1, v2, v3, vz⟩ := id (HV2.out.keep hBW)
        have b3 := b2.trans (hBW.mono b2.size)
        have HRZ := Lib.hid (HRZ2.out.keep hBW (Nat.le_refl _))
        have y3 := hBW.size
        clear hW hK hBW HV2 HRZ2
        have Lk0 := fun x : Later W.heap.size W => (x.cell kz).trans k0
        have Lv2 := fun x : Later W.heap.size W => (x.cell vz).trans v2
        have Lv3 := fun x : Later W.heap.size W => (x.cell vz).trans v3
        refine region_later W.heap.size (by kernel_rfl) (by kernel_rfl) ?_
        repeat (go_big_quiet_step (fail))
        refine wpQuiet_nil ?_
        intro x
        have hx := x.below
        generalize x.at = V at hx ⊢
        clear x Lk0 Lv2 Lv3
        replace h3 := (hx.block _ (by omega)).trans h3
        replace HRZ := Lib.hid (HRZ.out.keep hx (Nat.le_refl _))
        replace k0 := (hx.cell kz).trans k0
        replace k1 := (hx.cell kz).trans k1
        replace v0 := (hx.cell vz).trans v0
        replace v1 := (hx.cell vz).trans v1
        replace v2 := (hx.cell vz).trans v2
        replace v3 := (hx.cell vz).trans v3
        have bV := b3.trans (hx.mono b3.size)
        clear hx tg
        clear k0 k1
        -- V: the world, bV: its Below, 3: the errno
        have r0 : V.cell? ⟨w.heap.size + 1 + 1, 0, none⟩ = some (.slice none 0 0) := by rw [cell_row h3]; rfl
        have r1 : V.cell? ⟨w.heap.size + 1 + 1, 1, none⟩ = some (.int .i64 0) := by rw [cell_row h3]; rfl
        have r2 : V.cell? ⟨w.heap.size + 1 + 1, 2, none⟩ = some (.int .i64 0) := by rw [cell_row h3]; rfl
        have r3 : V.cell? ⟨w.heap.size + 1 + 1, 3, none⟩ = some (.int .i64 0) := by rw [cell_row h3]; rfl
        have q0 := frozen_of_row V (w.heap.size + 1 + 1) 0 _ _ h3
        have q1 := frozen_of_row V (w.heap.size + 1 + 1) 1 _ _ h3
        have q2 := frozen_of_row V (w.heap.size + 1 + 1) 2 _ _ h3
        have q3 := frozen_of_row V (w.heap.size + 1 + 1) 3 _ _ h3
        clear h3
        go_wp2
        refine bodyPost_ret (v := .tuple #[.agg #[.slice A L.length c, .int .i64 most, .int .i64 n, .int .i64 h], .int .i64 3]) (by simp [*, results, Try.results24, go_sem] <;> rfl) rfl ?_
        exact KEY.out _ ((bV).trans (((((Below.refl _ _).setCell (by simp; omega) _).setCell (by simp; omega) _).setCell (by simp; omega) _).setCell (by simp; omega) _))
      · have tg : decide (n < (NN : Int)) = false := decide_eq_false g1
        by_cases g2 : h < (U : Int)
        · have e1 : addE n h L p k = 3 := by rw [HE.out, HFB.out, decide_eq_true (by omega), decide_eq_false (by omega)]; rfl
          rw [e1, HQ'.out e1]
          have tg2 : decide (h < (U : Int)) = true := decide_eq_true g2
          clear e1 g1 g2
          go_enter Try.func24, Try.ntmps24
          go_wp2_with fail
          refine (CS.out _).mono ?_
          rintro e w1 ⟨rfl, hw1⟩
          have b1 : Below w.heap.size w w1 := below_of (by go_grown) hw1
          have hV : VBox w1 w.heap.size A L.length c most n h := VBox.keep (by refine ⟨?_, ?_, ?_, ?_, ?_⟩ <;> first | (go_simp; done) | (go_simp <;> rfl) | go_size) hw1
          have hP : PBox w1 (w.heap.size + 1) p := PBox.keep (by exact ⟨by go_simp <;> rfl, by go_simp <;> rfl, by go_simp <;> rfl, by go_simp <;> rfl, by go_simp <;> rfl, by go_simp <;> rfl, by go_simp <;> rfl, by go_simp <;> rfl, by go_size⟩) hw1
          have h3 : w1.heap[w.heap.size + 1 + 1]? = some (.cells #[.slice none 0 0, .int .i64 0, .int .i64 0, .int .i64 0] 35 (0, 0)) := (hw1.block (w.heap.size + 1 + 1) (by go_size)).trans (by repeat (first | (refine hp_new ?_; (simp; done)) | (refine hp_old ?_ ?_; · (first | (simp; done) | (simp; omega)))))
          have z3 := lt_of_block h3
          obtain ⟨v0, v1, v2, v3, vz⟩ := id hV
          clear hw1 CS
          obtain ⟨pa, pb, pc, pg, -, -, -, -, pz⟩ := id hP
          have HV := Lib.hid hV
          clear hV hP
          go_wp2_with fail
          refine (CP.out _ (HRD.out.keep b1 (Nat.le_refl _))).mono ?_
          rintro e w2 ⟨A', c', rfl, hrz, hG, hw2⟩
          have b2 := b1.trans (hw2.mono b1.size)
          have HG : Hid (∀ g off, A' = some ⟨g, off, none⟩ → Z ≠ [] → w1.heap.size ≤ g) := Lib.hid hG
          replace h3 := (hw2.block _ z3).trans h3
          have HV2 := Lib.hid (HV.out.keep hw2)
          have y2 := hw2.size
          have HRZ2 := Lib.hid hrz
          clear hrz hG hw2 HV pa pb pc pg pz v0 v1 v2 v3 vz CP
          go_upto_region 6 with fail
          generalize hW : World.alloc _ _ = W
          have hBW : Below w2.heap.size w2 W := by subst hW; go_grown
          have hK : KBox W w2.heap.size A' NN c' R := by subst hW; exact (by refine ⟨?_, ?_, ?_⟩ <;> first | (go_simp; done) | (go_simp <;> rfl) | go_size)
          obtain ⟨k0, k1, kz⟩ := id hK
          replace h3 := (hBW.block _ (by omega)).trans h3
          obtain ⟨v0, v1, v2, v3, vz⟩ := id (HV2.out.keep hBW)
          have b3 := b2.trans (hBW.mono b2.size)
          have HRZ := Lib.hid (HRZ2.out.keep hBW (Nat.le_refl _))
          have y3 := hBW.size
          clear hW hK hBW HV2 HRZ2
          have Lk0 := fun x : Later W.heap.size W => (x.cell kz).trans k0
          have Lv2 := fun x : Later W.heap.size W => (x.cell vz).trans v2
          have Lv3 := fun x : Later W.heap.size W => (x.cell vz).trans v3
          refine region_later W.heap.size (by kernel_rfl) (by kernel_rfl) ?_
          repeat (go_big_quiet_step ((go_at_call 51; exact later_of (Nat.le_refl _) (CH.out _ _ _ (HRZ.out.keep (Later.below _) (Nat.le_refl _))))))
          refine wpQuiet_nil ?_
          intro x
          have hx := x.below
          generalize x.at = V at hx ⊢
          clear x Lk0 Lv2 Lv3
          replace h3 := (hx.block _ (by omega)).trans h3
          replace HRZ := Lib.hid (HRZ.out.keep hx (Nat.le_refl _))
          replace k0 := (hx.cell kz).trans k0
          replace k1 := (hx.cell kz).trans k1
          replace v0 := (hx.cell vz).trans v0
          replace v1 := (hx.cell vz).trans v1
          replace v2 := (hx.cell vz).trans v2
          replace v3 := (hx.cell vz).trans v3
          have bV := b3.trans (hx.mono b3.size)
          clear hx tg
          clear k0 k1
          -- V: the world, bV: its Below, 3: the errno
          have r0 : V.cell? ⟨w.heap.size + 1 + 1, 0, none⟩ = some (.slice none 0 0) := by rw [cell_row h3]; rfl
          have r1 : V.cell? ⟨w.heap.size + 1 + 1, 1, none⟩ = some (.int .i64 0) := by rw [cell_row h3]; rfl
          have r2 : V.cell? ⟨w.heap.size + 1 + 1, 2, none⟩ = some (.int .i64 0) := by rw [cell_row h3]; rfl
          have r3 : V.cell? ⟨w.heap.size + 1 + 1, 3, none⟩ = some (.int .i64 0) := by rw [cell_row h3]; rfl
          have q0 := frozen_of_row V (w.heap.size + 1 + 1) 0 _ _ h3
          have q1 := frozen_of_row V (w.heap.size + 1 + 1) 1 _ _ h3
          have q2 := frozen_of_row V (w.heap.size + 1 + 1) 2 _ _ h3
          have q3 := frozen_of_row V (w.heap.size + 1 + 1) 3 _ _ h3
          clear h3
          go_wp2
          refine bodyPost_ret (v := .tuple #[.agg #[.slice A L.length c, .int .i64 most, .int .i64 n, .int .i64 h], .int .i64 3]) (by simp [*, results, Try.results24, go_sem] <;> rfl) rfl ?_
          exact KEY.out _ ((bV).trans (((((Below.refl _ _).setCell (by simp; omega) _).setCell (by simp; omega) _).setCell (by simp; omega) _).setCell (by simp; omega) _))
        · have e1 : addE n h L p k = 0 := by rw [HE.out, HFB.out, decide_eq_true (by omega), decide_eq_true (by omega)]; rfl
          rw [e1, HQ.out e1]
          have tg2 : decide (h < (U : Int)) = false := decide_eq_false g2
          clear e1 g1 g2 KEY
          go_enter Try.func24, Try.ntmps24
          go_wp2_with fail
          refine (CS.out _).mono ?_
          rintro e w1 ⟨rfl, hw1⟩
          have b1 : Below w.heap.size w w1 := below_of (by go_grown) hw1
          have hV : VBox w1 w.heap.size A L.length c most n h := VBox.keep (by refine ⟨?_, ?_, ?_, ?_, ?_⟩ <;> first | (go_simp; done) | (go_simp <;> rfl) | go_size) hw1
          have hP : PBox w1 (w.heap.size + 1) p := PBox.keep (by exact ⟨by go_simp <;> rfl, by go_simp <;> rfl, by go_simp <;> rfl, by go_simp <;> rfl, by go_simp <;> rfl, by go_simp <;> rfl, by go_simp <;> rfl, by go_simp <;> rfl, by go_size⟩) hw1
          have h3 : w1.heap[w.heap.size + 1 + 1]? = some (.cells #[.slice none 0 0, .int .i64 0, .int .i64 0, .int .i64 0] 35 (0, 0)) := (hw1.block (w.heap.size + 1 + 1) (by go_size)).trans (by repeat (first | (refine hp_new ?_; (simp; done)) | (refine hp_old ?_ ?_; · (first | (simp; done) | (simp; omega)))))
          have z3 := lt_of_block h3
          obtain ⟨v0, v1, v2, v3, vz⟩ := id hV
          clear hw1 CS
          obtain ⟨pa, pb, pc, pg, -, -, -, -, pz⟩ := id hP
          have HV := Lib.hid hV
          clear hV hP
          go_wp2_with fail
          refine (CP.out _ (HRD.out.keep b1 (Nat.le_refl _))).mono ?_
          rintro e w2 ⟨A', c', rfl, hrz, hG, hw2⟩
          have b2 := b1.trans (hw2.mono b1.size)
          have HG : Hid (∀ g off, A' = some ⟨g, off, none⟩ → Z ≠ [] → w1.heap.size ≤ g) := Lib.hid hG
          replace h3 := (hw2.block _ z3).trans h3
          have HV2 := Lib.hid (HV.out.keep hw2)
          have y2 := hw2.size
          have HRZ2 := Lib.hid hrz
          clear hrz hG hw2 HV pa pb pc pg pz v0 v1 v2 v3 vz CP
          go_upto_region 6 with fail
          generalize hW : World.alloc _ _ = W
          have hBW : Below w2.heap.size w2 W := by subst hW; go_grown
          have hK : KBox W w2.heap.size A' NN c' R := by subst hW; exact (by refine ⟨?_, ?_, ?_⟩ <;> first | (go_simp; done) | (go_simp <;> rfl) | go_size)
          obtain ⟨k0, k1, kz⟩ := id hK
          replace h3 := (hBW.block _ (by omega)).trans h3
          obtain ⟨v0, v1, v2, v3, vz⟩ := id (HV2.out.keep hBW)
          have b3 := b2.trans (hBW.mono b2.size)
          have HRZ := Lib.hid (HRZ2.out.keep hBW (Nat.le_refl _))
          have y3 := hBW.size
          clear hW hK hBW HV2 HRZ2
          have Lk0 := fun x : Later W.heap.size W => (x.cell kz).trans k0
          have Lv2 := fun x : Later W.heap.size W => (x.cell vz).trans v2
          have Lv3 := fun x : Later W.heap.size W => (x.cell vz).trans v3
          refine region_later W.heap.size (by kernel_rfl) (by kernel_rfl) ?_
          repeat (go_big_quiet_step ((go_at_call 51; exact later_of (Nat.le_refl _) (CH.out _ _ _ (HRZ.out.keep (Later.below _) (Nat.le_refl _))))))
          refine wpQuiet_nil ?_
          intro x
          have hx := x.below
          generalize x.at = V at hx ⊢
          clear x Lk0 Lv2 Lv3
          replace h3 := (hx.block _ (by omega)).trans h3
          replace HRZ := Lib.hid (HRZ.out.keep hx (Nat.le_refl _))
          replace k0 := (hx.cell kz).trans k0
          replace k1 := (hx.cell kz).trans k1
          replace v0 := (hx.cell vz).trans v0
          replace v1 := (hx.cell vz).trans v1
          replace v2 := (hx.cell vz).trans v2
          replace v3 := (hx.cell vz).trans v3
          have bV := b3.trans (hx.mono b3.size)
          clear hx tg
          have r0 : V.cell? ⟨w.heap.size + 1 + 1, 0, none⟩ = some (.slice none 0 0) := by rw [cell_row h3]; rfl
          have r1 : V.cell? ⟨w.heap.size + 1 + 1, 1, none⟩ = some (.int .i64 0) := by rw [cell_row h3]; rfl
          have r2 : V.cell? ⟨w.heap.size + 1 + 1, 2, none⟩ = some (.int .i64 0) := by rw [cell_row h3]; rfl
          have r3 : V.cell? ⟨w.heap.size + 1 + 1, 3, none⟩ = some (.int .i64 0) := by rw [cell_row h3]; rfl
          have q0 := frozen_of_row V (w.heap.size + 1 + 1) 0 _ _ h3
          have q1 := frozen_of_row V (w.heap.size + 1 + 1) 1 _ _ h3
          have q2 := frozen_of_row V (w.heap.size + 1 + 1) 2 _ _ h3
          have q3 := frozen_of_row V (w.heap.size + 1 + 1) 3 _ _ h3
          clear h3
          go_wp2
          refine bodyPost_ret (v := .tuple #[.agg #[.slice A' NN c', .int .i64 R, .int .i64 n, .int .i64 h], .int .i64 0]) (by simp [*, results, Try.results24, go_sem] <;> rfl) rfl ?_
          refine ⟨A', c', R, by rw [HNN.out], ?_, hRb, bV.trans (((((Below.refl _ _).setCell (by simp; omega) _).setCell (by simp; omega) _).setCell (by simp; omega) _).setCell (by simp; omega) _)⟩
          intro hne
          obtain ⟨g, off, e, hg, hc⟩ := HRZ.out hne
          have g1 := HG.out g off e hne
          have n2 : ¬ w.heap.size + 1 + 1 = g := by omega
          have n4 : ¬ g = w.heap.size + 1 + 1 := by omega
          refine ⟨g, off, e, by simpa using hg, fun i hi => ?_⟩
          obtain ⟨c0, c1, c2, c3, c4⟩ := hc i hi
          clear k0 k1 r0 r1 r2 r3 q0 q1 q2 q3 v0 v1 v2 v3
          refine ⟨?_, ?_, ?_, ?_, ?_⟩
          all_goals (go_simp; try assumption)
    · have e1 : addE n h L p k = 4 := by unfold addE; rw [if_pos hp, if_neg hk]
      have e2 : addQ n h L p k = L := by unfold addQ; rw [e1]; rfl
      rw [e1, e2]
      have KEY := Lib.hid (key 4)
      have HK := Lib.hid hk
      clear cs cp hps hpl hne hfb key hp e1 e2 hs hk
      by_cases h1 : k < 0
      · have hk1 : decide (k < 0) = true := decide_eq_true h1
        go_enter Try.func24, Try.ntmps24
        go_wp2_with fail
        refine (CS.out _).mono ?_
        rintro e w1 ⟨rfl, hw1⟩
        have b1 : Below w.heap.size w w1 := below_of (by go_grown) hw1
        have hV : VBox w1 w.heap.size A L.length c most n h := VBox.keep (by refine ⟨?_, ?_, ?_, ?_, ?_⟩ <;> first | (go_simp; done) | (go_simp <;> rfl) | go_size) hw1
        have hP : PBox w1 (w.heap.size + 1) p := PBox.keep (by exact ⟨by go_simp <;> rfl, by go_simp <;> rfl, by go_simp <;> rfl, by go_simp <;> rfl, by go_simp <;> rfl, by go_simp <;> rfl, by go_simp <;> rfl, by go_simp <;> rfl, by go_size⟩) hw1
        have h3 : w1.heap[w.heap.size + 1 + 1]? = some (.cells #[.slice none 0 0, .int .i64 0, .int .i64 0, .int .i64 0] 35 (0, 0)) := (hw1.block (w.heap.size + 1 + 1) (by go_size)).trans (by repeat (first | (refine hp_new ?_; (simp; done)) | (refine hp_old ?_ ?_; · (first | (simp; done) | (simp; omega)))))
        have z3 := lt_of_block h3
        obtain ⟨v0, v1, v2, v3, vz⟩ := id hV
        clear hw1 CS
        clear hV hP
        -- w1: the world, b1: its Below, 4: the errno
        have r0 : w1.cell? ⟨w.heap.size + 1 + 1, 0, none⟩ = some (.slice none 0 0) := by rw [cell_row h3]; rfl
        have r1 : w1.cell? ⟨w.heap.size + 1 + 1, 1, none⟩ = some (.int .i64 0) := by rw [cell_row h3]; rfl
        have r2 : w1.cell? ⟨w.heap.size + 1 + 1, 2, none⟩ = some (.int .i64 0) := by rw [cell_row h3]; rfl
        have r3 : w1.cell? ⟨w.heap.size + 1 + 1, 3, none⟩ = some (.int .i64 0) := by rw [cell_row h3]; rfl
        have q0 := frozen_of_row w1 (w.heap.size + 1 + 1) 0 _ _ h3
        have q1 := frozen_of_row w1 (w.heap.size + 1 + 1) 1 _ _ h3
        have q2 := frozen_of_row w1 (w.heap.size + 1 + 1) 2 _ _ h3
        have q3 := frozen_of_row w1 (w.heap.size + 1 + 1) 3 _ _ h3
        clear h3
        go_wp2
        refine bodyPost_ret (v := .tuple #[.agg #[.slice A L.length c, .int .i64 most, .int .i64 n, .int .i64 h], .int .i64 4]) (by simp [*, results, Try.results24, go_sem] <;> rfl) rfl ?_
        exact KEY.out _ ((b1).trans (((((Below.refl _ _).setCell (by simp; omega) _).setCell (by simp; omega) _).setCell (by simp; omega) _).setCell (by simp; omega) _))
      · have hk1 : decide (k < 0) = false := decide_eq_false h1
        have hk2 : decide (65535 < k) = true := decide_eq_true (by have := HK.out; omega)
        go_enter Try.func24, Try.ntmps24
        go_wp2_with fail
        refine (CS.out _).mono ?_
        rintro e w1 ⟨rfl, hw1⟩
        have b1 : Below w.heap.size w w1 := below_of (by go_grown) hw1
        have hV : VBox w1 w.heap.size A L.length c most n h := VBox.keep (by refine ⟨?_, ?_, ?_, ?_, ?_⟩ <;> first | (go_simp; done) | (go_simp <;> rfl) | go_size) hw1
        have hP : PBox w1 (w.heap.size + 1) p := PBox.keep (by exact ⟨by go_simp <;> rfl, by go_simp <;> rfl, by go_simp <;> rfl, by go_simp <;> rfl, by go_simp <;> rfl, by go_simp <;> rfl, by go_simp <;> rfl, by go_simp <;> rfl, by go_size⟩) hw1
        have h3 : w1.heap[w.heap.size + 1 + 1]? = some (.cells #[.slice none 0 0, .int .i64 0, .int .i64 0, .int .i64 0] 35 (0, 0)) := (hw1.block (w.heap.size + 1 + 1) (by go_size)).trans (by repeat (first | (refine hp_new ?_; (simp; done)) | (refine hp_old ?_ ?_; · (first | (simp; done) | (simp; omega)))))
        have z3 := lt_of_block h3
        obtain ⟨v0, v1, v2, v3, vz⟩ := id hV
        clear hw1 CS
        clear hV hP
        -- w1: the world, b1: its Below, 4: the errno
        have r0 : w1.cell? ⟨w.heap.size + 1 + 1, 0, none⟩ = some (.slice none 0 0) := by rw [cell_row h3]; rfl
        have r1 : w1.cell? ⟨w.heap.size + 1 + 1, 1, none⟩ = some (.int .i64 0) := by rw [cell_row h3]; rfl
        have r2 : w1.cell? ⟨w.heap.size + 1 + 1, 2, none⟩ = some (.int .i64 0) := by rw [cell_row h3]; rfl
        have r3 : w1.cell? ⟨w.heap.size + 1 + 1, 3, none⟩ = some (.int .i64 0) := by rw [cell_row h3]; rfl
        have q0 := frozen_of_row w1 (w.heap.size + 1 + 1) 0 _ _ h3
        have q1 := frozen_of_row w1 (w.heap.size + 1 + 1) 1 _ _ h3
        have q2 := frozen_of_row w1 (w.heap.size + 1 + 1) 2 _ _ h3
        have q3 := frozen_of_row w1 (w.heap.size + 1 + 1) 3 _ _ h3
        clear h3
        go_wp2
        refine bodyPost_ret (v := .tuple #[.agg #[.slice A L.length c, .int .i64 most, .int .i64 n, .int .i64 h], .int .i64 4]) (by simp [*, results, Try.results24, go_sem] <;> rfl) rfl ?_
        exact KEY.out _ ((b1).trans (((((Below.refl _ _).setCell (by simp; omega) _).setCell (by simp; omega) _).setCell (by simp; omega) _).setCell (by simp; omega) _))
end

end Go.Proofs.Ytggceecolfebjaa

namespace Go.Proofs.Ytggceecolfebjaa
open Go.RowKit Go.Maps
set_option maxRecDepth 100000

/-- A block of the document's routes holds no pairs. -/
theorem rdq_ne {w : World} {A : Option Addr} {l : List Pr} (h : RdQ w A l) {b : Nat} {x y z : Int} {t : TypeId} {B : Option Addr} {n c : Nat} (hb : w.heap[b]? = some (.cells #[.slice B n c, .int .i64 x, .int .i64 y, .int .i64 z] t (0, 0))) : ∀ g off, A = some ⟨g, off, none⟩ → l ≠ [] → g ≠ b := by
  rintro g off rfl hn rfl
  obtain ⟨g', off', e, hg, hc⟩ := h hn
  simp only [Option.some.injEq, Addr.mk.injEq, and_true] at e
  obtain ⟨rfl, rfl⟩ := e
  have hpos : 0 < l.length := List.length_pos_iff.2 hn
  have h0 := (hc 0 hpos).1
  rw [cell_row hb] at h0
  match off, h0 with
  | 0, h0 => simp at h0
  | 1, h0 => simp at h0
  | 2, h0 => simp at h0
  | 3, h0 => simp at h0
  | k + 4, h0 => simp at h0
theorem RdQ.turn {S : Nat → Prop} {w w' : World} {A : Option Addr} {ls : List Pr} (h : RdQ w A ls) (hf : Frm S w w') (hs : ∀ g off, A = some ⟨g, off, none⟩ → ls ≠ [] → ¬ S g) : RdQ w' A ls := fun hn => by
  obtain ⟨g, off, e, hg, hc⟩ := h hn
  have hS := hs g off e hn
  refine ⟨g, off, e, Nat.lt_of_lt_of_le hg hf.size, fun i hi => ?_⟩
  obtain ⟨c0, c1, c2, c3, c4⟩ := hc i hi
  exact ⟨(hf.cell (p := ⟨g, off + i * 5, none⟩) hg hS).trans c0, (hf.cell (p := ⟨g, off + i * 5 + 1, none⟩) hg hS).trans c1, (hf.cell (p := ⟨g, off + i * 5 + 2, none⟩) hg hS).trans c2, (hf.cell (p := ⟨g, off + i * 5 + 3, none⟩) hg hS).trans c3, (hf.cell (p := ⟨g, off + i * 5 + 4, none⟩) hg hS).trans c4⟩
def VBlk (w : World) (b : Nat) (A : Option Addr) (l c : Nat) (most n h : Int) : Prop := w.heap[b]? = some (.cells #[.slice A l c, .int .i64 most, .int .i64 n, .int .i64 h] 35 (0, 0))

theorem vblk_set {w : World} {b : Nat} {x0 x1 x2 x3 : Value} {A : Option Addr} {l c : Nat} {m n h : Int} (hb : w.heap[b]? = some (.cells #[x0, x1, x2, x3] 35 (0, 0))) : VBlk ((((w.setCell ⟨b, 0, none⟩ (.slice A l c)).setCell ⟨b, 1, none⟩ (.int .i64 m)).setCell ⟨b, 2, none⟩ (.int .i64 n)).setCell ⟨b, 3, none⟩ (.int .i64 h)) b A l c m n h := by
  have h0 := heap_setCell_same _ b 0 _ _ (.slice A l c) hb
  have h1 := heap_setCell_same _ b 1 _ _ (.int .i64 m) h0
  have h2 := heap_setCell_same _ b 2 _ _ (.int .i64 n) h1
  have h3 := heap_setCell_same _ b 3 _ _ (.int .i64 h) h2
  exact h3
def PlainPost (w : World) (L : List Pr) (e : Ending) (w' : World) : Prop := ∃ A c most, e = .returned (.agg #[.slice A L.length c, .int .i64 most, .int .i64 200, .int .i64 200]) ∧ RdQ w' A L ∧ Below w.heap.size w w'
theorem fill_srt (ls : List Pr) : ∀ k, k ≤ ls.length → Srt (fillK ls k).1 ∧ ((fillK ls k).1.length : Int) ≤ 200 := by
  intro k
  induction k with
  | zero => intro _; exact ⟨srt_nil, show ((0 : Nat) : Int) ≤ 200 by decide⟩
  | succ k ih =>
    intro hk
    obtain ⟨h1, h2⟩ := ih (by omega)
    rw [fillK_succ ls k (by omega)]
    simp only
    unfold addQ
    by_cases he : addE 200 200 (fillK ls k).1 ls[k].p ls[k].v = 0
    · rw [if_pos he]
      unfold addE at he
      by_cases hp : psane ls[k].p = true
      · rw [if_pos hp] at he
        refine ⟨put_srt h1 hp, ?_⟩
        split at he
        · split at he
          · rename_i hf
            unfold fitsB at hf
            rw [Bool.and_eq_true, decide_eq_true_iff] at hf
            exact hf.1
          · cases he
        · cases he
      · rw [if_neg hp] at he
        cases he
    · rw [if_neg he]
      exact ⟨h1, h2⟩

theorem kkeep {W w' : World} {b g o : Nat} {a0 a1 a2 a3 e0 e1 e2 e3 e4 : Value} (h : Below W.heap.size W w') (hb : b < W.heap.size) (hg : g < W.heap.size) (h0 : W.cell? ⟨b, 0, none⟩ = some a0) (h1 : W.cell? ⟨b, 1, none⟩ = some a1) (h2 : W.cell? ⟨b, 2, none⟩ = some a2) (h3 : W.cell? ⟨b, 3, none⟩ = some a3) (k0 : W.cell? ⟨g, o, none⟩ = some e0) (k1 : W.cell? ⟨g, o + 1, none⟩ = some e1) (k2 : W.cell? ⟨g, o + 2, none⟩ = some e2) (k3 : W.cell? ⟨g, o + 3, none⟩ = some e3) (k4 : W.cell? ⟨g, o + 4, none⟩ = some e4) :
    w'.cell? ⟨b, 0, none⟩ = some a0 ∧ w'.cell? ⟨b, 1, none⟩ = some a1 ∧ w'.cell? ⟨b, 2, none⟩ = some a2 ∧ w'.cell? ⟨b, 3, none⟩ = some a3 ∧ w'.cell? ⟨g, o, none⟩ = some e0 ∧ w'.cell? ⟨g, o + 1, none⟩ = some e1 ∧ w'.cell? ⟨g, o + 2, none⟩ = some e2 ∧ w'.cell? ⟨g, o + 3, none⟩ = some e3 ∧ w'.cell? ⟨g, o + 4, none⟩ = some e4 ∧ Below W.heap.size W w' :=
  ⟨(h.cell (p := ⟨b, 0, none⟩) hb).trans h0, (h.cell (p := ⟨b, 1, none⟩) hb).trans h1, (h.cell (p := ⟨b, 2, none⟩) hb).trans h2, (h.cell (p := ⟨b, 3, none⟩) hb).trans h3, (h.cell (p := ⟨g, o, none⟩) hg).trans k0, (h.cell (p := ⟨g, o + 1, none⟩) hg).trans k1, (h.cell (p := ⟨g, o + 2, none⟩) hg).trans k2, (h.cell (p := ⟨g, o + 3, none⟩) hg).trans k3, (h.cell (p := ⟨g, o + 4, none⟩) hg).trans k4, h⟩
theorem frm_set {b : Nat} {w w' : World} {p : Addr} {v : Value} (h : Frm (fun x => x = b) w w') (e : p.block = b) : Frm (fun x => x = b) w (w'.setCell p v) := h.setCell (Or.inl e) v
/-- A block that was made ahead of a call is behind it as it was. -/
theorem yv_then {G : Prop} {W w1 : World} {b : Nat} {o : Obj} (hb : Below W.heap.size W w1) (hlt : b < W.heap.size) (h0 : W.heap[b]? = some o) (k : w1.heap[b]? = some o ∧ b < w1.heap.size → G) : G := k ⟨(hb.block b hlt).trans h0, Nat.lt_of_lt_of_le hlt hb.size⟩
end Go.Proofs.Ytggceecolfebjaa

namespace Go.Proofs.Ytggceecolfebjaa
open Go.RowKit Go.Maps
set_option maxRecDepth 100000

set_option maxHeartbeats 4000000 in
theorem plain8_any (Al : Option Addr) (cap : Nat) (ls : List Pr) (w : World) (hr : RdQ w Al ls) (hl : ls.length ≤ 60) :
    Calls Try.prog 7 #[.slice Al ls.length cap] w (PlainPost w (fillK ls ls.length).1) := by
  have HRD := Lib.hid hr
  clear hr
  go_enter Try.func7, Try.ntmps7
  go_wp2_with fail
  refine (knew6_any _).mono ?_
  rintro e w1 ⟨rfl, hw1⟩
  have b1 : Below w.heap.size w w1 := below_of (by go_grown) hw1
  have h1 : w1.heap[w.heap.size]? = some (.cells #[.slice none 0 0, .int .i64 0, .int .i64 0, .int .i64 0] 35 (0, 0)) := (hw1.block (w.heap.size) (by go_size)).trans (by repeat (first | (refine hp_new ?_; (simp; done)) | (refine hp_old ?_ ?_; · (first | (simp; done) | (simp; omega)))))
  have z1 := lt_of_block h1
  clear hw1
  go_wp2_with fail
  generalize hW : World.alloc _ _ = W0
  have hB0 : Below w1.heap.size w1 W0 := by subst hW; go_grown
  have h2 : VBlk W0 w1.heap.size none 0 0 2 200 200 := by subst hW; unfold VBlk; repeat (first | (refine hp_new ?_; (simp; done)) | (refine hp_old ?_ ?_; · (first | (simp; done) | (simp; omega))))
  have h1' := (hB0.block _ z1).trans h1
  have b0 := b1.trans (hB0.mono b1.size)
  have H2 := Lib.hid h2
  have H1 := Lib.hid h1'
  have z2 := lt_of_block h2
  clear hW h2 h1 h1' hB0 b1
  go_loopw [4] (fun i wr => ∃ (k : Nat) (A : Option Addr) (c : Nat) (most : Int), k ≤ ls.length ∧ i = .int .i64 k ∧ VBlk wr w1.heap.size A (fillK ls k).1.length c most 200 200 ∧ RdQ wr A (fillK ls k).1 ∧ (0 ≤ most ∧ most ≤ 2000000) ∧ wr.heap[w.heap.size]? = some (.cells #[.slice none 0 0, .int .i64 0, .int .i64 0, .int .i64 0] 35 (0, 0)) ∧ Below w.heap.size w wr) (fun i _ => ls.length - (RowKit.intOf i).toNat)
  case atStart => exact ⟨0, none, 0, 2, Nat.zero_le _, rfl, H2.out, fun h => absurd rfl h, by decide, H1.out, b0⟩
  case round =>
    obtain ⟨k, A, c, most, hk, rfl, hv, hrq, hmo, hr1, hB⟩ := hrel
    have HRQ := Lib.hid hrq
    have HR1 := Lib.hid hr1
    have HV := Lib.hid hv
    have zv := lt_of_block hv
    clear hrq hr1 H1 H2 b0
    by_cases hlt : k < ls.length
    · -- HRD: the fact RdQ at w, ls: the list; k, hlt, hB : Below w.heap.size w wr. The cells of the k-th in wr: d0 .. d4
      obtain ⟨g, off, rfl, hg, hc⟩ := HRD.out (by intro e; rw [e] at hlt; cases hlt)
      obtain ⟨c0, c1, c2, c3, c4⟩ := hc k hlt
      have d0 := (hB.cell (p := ⟨g, off + k * 5, none⟩) hg).trans c0
      have d1 := (hB.cell (p := ⟨g, off + k * 5 + 1, none⟩) hg).trans c1
      have d2 := (hB.cell (p := ⟨g, off + k * 5 + 2, none⟩) hg).trans c2
      have d3 := (hB.cell (p := ⟨g, off + k * 5 + 3, none⟩) hg).trans c3
      have d4 := (hB.cell (p := ⟨g, off + k * 5 + 4, none⟩) hg).trans c4
      have gz : g < wr.heap.size := Nat.lt_of_lt_of_le hg hB.size
      clear c0 c1 c2 c3 c4 hc
      obtain ⟨hs1, hs2⟩ := fill_srt ls k hk
      have hsc := fillK_succ ls k hlt
      obtain ⟨y, hy⟩ : ∃ y, ls[k] = y := ⟨_, rfl⟩
      rw [hy] at d0 d1 d2 d3 d4 hsc
      obtain ⟨L, hL⟩ : ∃ L, (fillK ls k).1 = L := ⟨_, rfl⟩
      rw [hL] at hsc hs1 hs2 hv HV HRQ
      have hsc1 : (fillK ls (k + 1)).1 = addQ 200 200 L y.p y.v := by rw [hsc]
      obtain ⟨Z, hZ⟩ : ∃ Z, (fillK ls (k + 1)).1 = Z := ⟨_, rfl⟩
      rw [hZ] at hsc1
      have ca := fun W (hr : RdQ W A L) => kadd_any (c := c) hr hs1 (by omega) most hmo 200 200 (by decide) (by decide) y.p y.v
      rw [← hsc1] at ca
      obtain ⟨E, hE⟩ : ∃ E, addE 200 200 L y.p y.v = E := ⟨_, rfl⟩
      rw [hE] at ca
      have v0 : wr.cell? ⟨w1.heap.size, 0, none⟩ = some (.slice A L.length c) := by rw [cell_row hv]; rfl
      have v1 : wr.cell? ⟨w1.heap.size, 1, none⟩ = some (.int .i64 most) := by rw [cell_row hv]; rfl
      have v2 : wr.cell? ⟨w1.heap.size, 2, none⟩ = some (.int .i64 200) := by rw [cell_row hv]; rfl
      have v3 : wr.cell? ⟨w1.heap.size, 3, none⟩ = some (.int .i64 200) := by rw [cell_row hv]; rfl
      have CA := Lib.hid ca
      have HZ := Lib.hid hZ
      clear hy hL hsc hsc1 hs1 hs2 hE hZ ca hv
      obtain ⟨W, rfl⟩ : ∃ W, W = wr := ⟨_, rfl⟩
      go_upto_region 5 with fail
      go_cut [5, 6] (fun b s wx => (∃ E, s = .int .i64 E) ∧ ∃ q A' c' m', b = .pointer (some ⟨q, 0, none⟩) ∧ W.heap.size ≤ q ∧ VBox wx q A' Z.length c' m' 200 200 ∧ RdQ wx A' Z ∧ (0 ≤ m' ∧ m' ≤ 2000000) ∧ Below W.heap.size W wx)
      case first =>
        go_region_held3 (fun w' => w'.cell? ⟨w1.heap.size, 0, none⟩ = some (.slice A L.length c) ∧ w'.cell? ⟨w1.heap.size, 1, none⟩ = some (.int .i64 most) ∧ w'.cell? ⟨w1.heap.size, 2, none⟩ = some (.int .i64 200) ∧ w'.cell? ⟨w1.heap.size, 3, none⟩ = some (.int .i64 200) ∧ w'.cell? ⟨g, off + k * 5, none⟩ = some (.int .u64 (u y.p.a.hi)) ∧ w'.cell? ⟨g, off + k * 5 + 1, none⟩ = some (.int .u64 (u y.p.a.lo)) ∧ w'.cell? ⟨g, off + k * 5 + 2, none⟩ = some (.bool y.p.a.v6) ∧ w'.cell? ⟨g, off + k * 5 + 3, none⟩ = some (.int .i64 y.p.n) ∧ w'.cell? ⟨g, off + k * 5 + 4, none⟩ = some (.int .i64 y.v) ∧ Below W.heap.size W w')
          (first | exact kkeep hk5 zv gz v0 v1 v2 v3 d0 d1 d2 d3 d4 | (refine kkeep ?_ zv gz v0 v1 v2 v3 d0 d1 d2 d3 d4; go_grown))
          ((go_at_call 24; refine (CA.out _ (HRQ.out.keep (B := W.heap.size) (by go_grown) (Nat.le_refl _))).mono ?_; rintro e w5 ⟨A5, c5, m5, rfl, hr5, hm5, hw5⟩; have hk5 := below_of (w := W) (by go_grown) hw5; have zk5 := hk5.size; have HR5 := Lib.hid hr5; clear hr5; (try (refine yv_then (b := W.heap.size) (o := .cells #[.slice none 0 0, .int .i64 0, .int .i64 0, .int .i64 0] 35 (0, 0)) hw5 ?_ ?_ (fun y4 => ?_); go_size; (refine hp_new ?_; simp); obtain ⟨yb, yz⟩ := y4; have ya : w5.cell? ⟨W.heap.size, 0, none⟩ = some (.slice none 0 0) := (cell_row yb).trans rfl; have yc : w5.cell? ⟨W.heap.size, 1, none⟩ = some (.int .i64 0) := (cell_row yb).trans rfl; have yd : w5.cell? ⟨W.heap.size, 2, none⟩ = some (.int .i64 0) := (cell_row yb).trans rfl; have ye : w5.cell? ⟨W.heap.size, 3, none⟩ = some (.int .i64 0) := (cell_row yb).trans rfl; have y0 := frozen_of_row w5 W.heap.size 0 _ _ yb; have y1 := frozen_of_row w5 W.heap.size 1 _ _ yb; have y2 := frozen_of_row w5 W.heap.size 2 _ _ yb; have y3 := frozen_of_row w5 W.heap.size 3 _ _ yb; have YB := Lib.hid yb; clear yb))))
        all_goals (go_wp2_with fail; go_meet)
        all_goals first
          | exact ⟨⟨_, rfl⟩, w5.heap.size, A5, c5, m5, rfl, zk5, (by refine ⟨?_, ?_, ?_, ?_, ?_⟩ <;> first | (go_simp; done) | (go_simp <;> rfl) | go_size), HR5.out.keep (B := w5.heap.size) (by go_grown) (Nat.le_refl _), hm5, by go_grown⟩
          | exact ⟨⟨_, rfl⟩, W.heap.size, A5, c5, m5, rfl, Nat.le_refl _, (by refine ⟨?_, ?_, ?_, ?_, ?_⟩ <;> first | (go_simp; done) | (go_simp <;> rfl) | go_size), HR5.out.turn (S := fun x => x = W.heap.size) (frm_set (frm_set (frm_set (frm_set (Frm.refl _ _) rfl) rfl) rfl) rfl) (fun g off e hn => rdq_ne HR5.out YB.out g off e hn), hm5, by go_grown⟩
      case rest =>
        obtain ⟨⟨E', rfl⟩, q, A', c', m', rfl, hq, hV5, hr5, hm5, hbc⟩ := hcut
        have hv6 := (hbc.block _ zv).trans HV.out
        have hr6 := (hbc.block w.heap.size (by omega)).trans HR1.out
        have b6 := hB.trans (hbc.mono hB.size)
        have hnq := rdq_ne hr5 hv6
        obtain ⟨x0, x1, x2, x3, xz⟩ := id hV5
        have r0 : wc.cell? ⟨w1.heap.size, 0, none⟩ = some (.slice A L.length c) := by rw [cell_row hv6]; rfl
        have r1 : wc.cell? ⟨w1.heap.size, 1, none⟩ = some (.int .i64 most) := by rw [cell_row hv6]; rfl
        have r2 : wc.cell? ⟨w1.heap.size, 2, none⟩ = some (.int .i64 200) := by rw [cell_row hv6]; rfl
        have r3 : wc.cell? ⟨w1.heap.size, 3, none⟩ = some (.int .i64 200) := by rw [cell_row hv6]; rfl
        have q0 := frozen_of_row wc (w1.heap.size) 0 _ _ hv6
        have q1 := frozen_of_row wc (w1.heap.size) 1 _ _ hv6
        have q2 := frozen_of_row wc (w1.heap.size) 2 _ _ hv6
        have q3 := frozen_of_row wc (w1.heap.size) 3 _ _ hv6
        have HNQ := Lib.hid hnq
        have HV6 := Lib.hid hv6
        have HR6 := Lib.hid hr6
        have HQ5 := Lib.hid hr5
        have HM5 := Lib.hid hm5
        have Z1 := Lib.hid z1
        clear hv6 hr6 hnq hr5 hm5 hV5 hbc v0 v1 v2 v3 d0 d1 d2 d3 d4 CA HV HR1 HRQ
        go_wp2
        go_roundw
        case rel =>
          refine ⟨k + 1, A', c', m', by omega, by go_num, ?_, ?_, HM5.out, ?_, ?_⟩
          · rw [HZ.out]
            exact vblk_set HV6.out
          · rw [HZ.out]
            exact HQ5.out.turn (S := fun x => x = w1.heap.size) (frm_set (frm_set (frm_set (frm_set (Frm.refl _ _) rfl) rfl) rfl) rfl) (fun g off e hn => HNQ.out g off e hn)
          · have hne : w.heap.size ≠ w1.heap.size := by have := Z1.out; omega
            rw [Below.heap_setCell _ _ _ _ hne, Below.heap_setCell _ _ _ _ hne, Below.heap_setCell _ _ _ _ hne, Below.heap_setCell _ _ _ _ hne]
            exact HR6.out
          · have := Z1.out
            exact b6.trans (((((Below.refl _ _).setCell (by simp; omega) _).setCell (by simp; omega) _).setCell (by simp; omega) _).setCell (by simp; omega) _)
        case measure => simp [RowKit.intOf]; omega
    · obtain rfl : k = ls.length := by omega
      obtain ⟨L, hL⟩ : ∃ L, (fillK ls ls.length).1 = L := ⟨_, rfl⟩
      rw [hL] at hv HV HRQ
      have v0 : wr.cell? ⟨w1.heap.size, 0, none⟩ = some (.slice A L.length c) := by rw [cell_row hv]; rfl
      have v1 : wr.cell? ⟨w1.heap.size, 1, none⟩ = some (.int .i64 most) := by rw [cell_row hv]; rfl
      have v2 : wr.cell? ⟨w1.heap.size, 2, none⟩ = some (.int .i64 200) := by rw [cell_row hv]; rfl
      have v3 : wr.cell? ⟨w1.heap.size, 3, none⟩ = some (.int .i64 200) := by rw [cell_row hv]; rfl
      have hr1 := HR1.out
      have r0 : wr.cell? ⟨w.heap.size, 0, none⟩ = some (.slice none 0 0) := by rw [cell_row hr1]; rfl
      have r1 : wr.cell? ⟨w.heap.size, 1, none⟩ = some (.int .i64 0) := by rw [cell_row hr1]; rfl
      have r2 : wr.cell? ⟨w.heap.size, 2, none⟩ = some (.int .i64 0) := by rw [cell_row hr1]; rfl
      have r3 : wr.cell? ⟨w.heap.size, 3, none⟩ = some (.int .i64 0) := by rw [cell_row hr1]; rfl
      have q0 := frozen_of_row wr (w.heap.size) 0 _ _ hr1
      have q1 := frozen_of_row wr (w.heap.size) 1 _ _ hr1
      have q2 := frozen_of_row wr (w.heap.size) 2 _ _ hr1
      have q3 := frozen_of_row wr (w.heap.size) 3 _ _ hr1
      have hne := rdq_ne HRQ.out hr1
      have HNE := Lib.hid hne
      have HL := Lib.hid hL
      clear hv hr1 hne hL zv z2 hmo hk
      go_wp2
      refine bodyPost_ret (v := .agg #[.slice A L.length c, .int .i64 most, .int .i64 200, .int .i64 200]) (by simp [*, results, Try.results7, go_sem] <;> rfl) rfl ?_
      rw [HL.out]
      refine ⟨A, c, most, rfl, ?_, ?_⟩
      · refine HRQ.out.turn (S := fun b => b = w.heap.size) ?_ (fun g off e hn => HNE.out g off e hn)
        exact frm_set (frm_set (frm_set (frm_set (Frm.refl _ _) rfl) rfl) rfl) rfl
      · exact hB.trans (((((Below.refl _ _).setCell (by simp) _).setCell (by simp) _).setCell (by simp) _).setCell (by simp) _)

end Go.Proofs.Ytggceecolfebjaa
