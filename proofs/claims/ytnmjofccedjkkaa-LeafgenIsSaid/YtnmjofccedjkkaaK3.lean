/-
  What Leaf, Exact and Good of the document's answer for layer 7 return. Condition: the pairs lie where the argument says.
-/
import Derived.Test.YtnmjofccedjkkaaK1
import Derived.Test.YtnmjofccedjkkaaR1
import Derived.Deep.DeepCutAuto
import Derived.Test.YtnmjofccedjkkaaH1
namespace Go.Proofs.Ytnmjofccedjkkaa
open Go.RowKit Go.Maps
set_option maxRecDepth 100000

section
variable {w : World} {A : Option Addr} {c0 : Nat} {L : List Pr}
set_option maxHeartbeats 4000000 in
theorem kwidest_any (hr : RdQ w A L) (hl : L.length ≤ 1000000) (most n h : Int) (a : Ad) (least : Int) : Calls Try.prog 21 #[.agg #[.slice A L.length c0, .int .i64 most, .int .i64 n, .int .i64 h], .agg #[.int .u64 (u a.hi), .int .u64 (u a.lo), .bool a.v6], .int .i64 least] w fun e w' => e = .returned (.agg #[.int .u64 (u (wideP L a least).a.hi), .int .u64 (u (wideP L a least).a.lo), .bool (wideP L a least).a.v6, .int .i64 (wideP L a least).n]) ∧ Below w.heap.size w w' := by
  have HRD := Lib.hid hr
  clear hr
  have hw := wid_bd a.v6
  have hM : wideP L a least = pof a (wideN L a (wid a.v6 - clamp a.v6 least).toNat (clamp a.v6 least)) := rfl
  have hcw := clamp_wid a.v6 least
  have hif := ins_full L a
  go_enter Try.func21, Try.ntmps21
  go_upto_region 1 with fail
  generalize hW : World.alloc _ _ = W
  have hz : w.heap.size ≤ W.heap.size := by subst hW; go_size
  have hB : Below w.heap.size w W := by subst hW; go_grown
  have hV : VBox W w.heap.size A L.length c0 most n h := by subst hW; exact (by refine ⟨?_, ?_, ?_, ?_, ?_⟩ <;> first | (go_simp; done) | (go_simp <;> rfl) | go_size)
  have hA : ABox W (w.heap.size + 1) a := by subst hW; exact ⟨by go_simp <;> rfl, by go_simp <;> rfl, by go_simp <;> rfl, by go_size⟩
  have h3 : W.heap[w.heap.size + 1 + 1]? = some (.cells #[.int .u64 0, .int .u64 0, .bool false, .int .i64 0] 27 (0, 0)) := by subst hW; repeat (first | (refine hp_new ?_; (simp; done)) | (refine hp_old ?_ ?_; · (first | (simp; done) | (simp; omega))))
  have HV := Lib.hid hV
  have HA := Lib.hid hA
  have H3 := Lib.hid h3
  have z3 := lt_of_block h3
  have HRW := Lib.hid (HRD.out.keep hB (Nat.le_refl _))
  obtain ⟨pa, pb, pc, pz⟩ := id hA
  clear hW hV hA h3 HRD
  obtain ⟨X, hX⟩ : ∃ X, wid a.v6 = X := ⟨_, rfl⟩
  obtain ⟨c, hc⟩ : ∃ c, clamp a.v6 least = c := ⟨_, rfl⟩
  have hc' : c = min (max least 0) X := by rw [← hc, ← hX]; rfl
  have cwd := refWidth_any a.v6
  rw [hX] at hw hcw hM hif cwd
  rw [hc] at hcw hM
  have HX := Lib.hid hX
  have HM := Lib.hid hM
  have HIF := Lib.hid hif
  have CWD := Lib.hid cwd
  clear hX hM hc hif cwd
  go_cut [7] (fun v wx => v = .int .i64 c ∧ W = wx)
  case first =>
    go_wp2_with fail
    refine (CWD.out _).mono ?_
    rintro e w1 ⟨rfl, rfl⟩
    go_wp2
    all_goals (go_meet; exact ⟨by congr 1; omega, rfl⟩)
  case rest =>
    obtain ⟨rfl, rfl⟩ := hcut
    clear hc' pa pb pc pz CWD
    obtain ⟨W0, rfl⟩ : ∃ W0, W0 = W := ⟨_, rfl⟩
    go_wp2_with fail
    go_loopw [7] (fun v wr => ∃ j : Nat, (j : Int) ≤ X - c ∧ v = .int .i64 (c + j) ∧ wideN L a (X - c).toNat c = wideN L a ((X - c).toNat - j) (c + j) ∧ Below W0.heap.size W0 wr) (fun v _ => (X - RowKit.intOf v).toNat)
    case atStart => exact ⟨0, by omega, by simp, by simp, Below.refl _ _⟩
    case round =>
      obtain ⟨j, hj, rfl, he, hBj⟩ := hrel
      have HE := Lib.hid he
      have bj := hB.trans (hBj.mono hz)
      obtain ⟨pa, pb, pc, pz⟩ := id (HA.out.keep hBj)
      obtain ⟨v0, v1, v2, v3, vz⟩ := id (HV.out.keep hBj)
      have HRJ := Lib.hid (HRW.out.keep hBj (Nat.le_refl _))
      have h3j := (hBj.block _ z3).trans H3.out
      have zj := hBj.size
      have s1 : 0 ≤ c + (j : Int) ∧ c + (j : Int) ≤ 128 := by omega
      have hP : ∃ P, pof a (c + j) = P := ⟨_, rfl⟩
      have cp := rpof_any a (c + j)
      obtain ⟨P, hP⟩ := hP
      rw [hP] at cp
      have HP := Lib.hid hP
      have CP := Lib.hid cp
      have HJ := Lib.hid hj
      clear he HA HV H3 HRW hP cp hj
      obtain ⟨N, hN⟩ : ∃ N, c + (j : Int) = N := ⟨_, rfl⟩
      rw [hN] at s1 CP ⊢
      have HN := Lib.hid hN
      clear hN
      obtain ⟨W, rfl⟩ : ∃ W, W = wr := ⟨_, rfl⟩
      have Lpa := fun x : Later W.heap.size W => (x.cell pz).trans pa
      have Lpb := fun x : Later W.heap.size W => (x.cell pz).trans pb
      have Lpc := fun x : Later W.heap.size W => (x.cell pz).trans pc
      have Lv0 := fun x : Later W.heap.size W => (x.cell vz).trans v0
      have Lv1 := fun x : Later W.heap.size W => (x.cell vz).trans v1
      have Lv2 := fun x : Later W.heap.size W => (x.cell vz).trans v2
      have Lv3 := fun x : Later W.heap.size W => (x.cell vz).trans v3
      go_wp2_with fail
      refine region_later W.heap.size (by kernel_rfl) (by kernel_rfl) ?_
      repeat (go_big_quiet_step (first | (go_at_call 58; exact later_of (Nat.le_refl _) (CP.out _)) | (go_at_call 61; exact later_of (Nat.le_refl _) (kins6_any (HRJ.out.keep (Later.below _) (Nat.le_refl _)) hl most n h P))))
      refine wpQuiet_nil ?_
      intro x
      have hx := x.below
      generalize x.at = V at hx ⊢
      clear x Lpa Lpb Lpc Lv0 Lv1 Lv2 Lv3 v0 v1 v2 v3
      have bV := bj.trans (hx.mono bj.size)
      have dV := hBj.trans (hx.mono hBj.size)
      replace pa := (hx.cell pz).trans pa
      replace pb := (hx.cell pz).trans pb
      replace pc := (hx.cell pz).trans pc
      replace h3j := (hx.block _ (by omega)).trans h3j
      have zV := hx.size
      clear hx
      cases hi : insL L P
      · have HR : Hid (wideP L a least = P) := Lib.hid (by
          rw [HM.out]
          have hj := HJ.out
          rw [← HP.out] at hi
          rcases Int.lt_or_eq_of_le hj with e | e
          · rw [wideN_stop (by omega) HE.out hi]; exact HP.out
          · rw [wideN_end (by omega) HE.out, ← HP.out]
            congr 1
            omega)
        clear hi HE HM HIF
        go_wp2_with fail
        refine (CP.out _).mono ?_
        rintro e w5 ⟨rfl, hw5⟩
        have h35 := (hw5.block (w.heap.size + 1 + 1) (by omega)).trans h3j
        have b5 := bV.trans (hw5.mono bV.size)
        have r0 : w5.cell? ⟨w.heap.size + 1 + 1, 0, none⟩ = some (.int .u64 0) := by rw [cell_row h35]; rfl
        have r1 : w5.cell? ⟨w.heap.size + 1 + 1, 1, none⟩ = some (.int .u64 0) := by rw [cell_row h35]; rfl
        have r2 : w5.cell? ⟨w.heap.size + 1 + 1, 2, none⟩ = some (.bool false) := by rw [cell_row h35]; rfl
        have r3 : w5.cell? ⟨w.heap.size + 1 + 1, 3, none⟩ = some (.int .i64 0) := by rw [cell_row h35]; rfl
        have q0 := frozen_of_row w5 (w.heap.size + 1 + 1) 0 _ _ h35
        have q1 := frozen_of_row w5 (w.heap.size + 1 + 1) 1 _ _ h35
        have q2 := frozen_of_row w5 (w.heap.size + 1 + 1) 2 _ _ h35
        have q3 := frozen_of_row w5 (w.heap.size + 1 + 1) 3 _ _ h35
        clear h35 h3j hw5 pa pb pc
        go_wp2
        refine bodyPost_ret (v := .agg #[.int .u64 (u P.a.hi), .int .u64 (u P.a.lo), .bool P.a.v6, .int .i64 P.n]) (by simp [*, results, Try.results21, go_sem] <;> rfl) rfl ⟨by rw [HR.out], ?_⟩
        exact b5.trans (((((Below.refl _ _).setCell (by simp; omega) _).setCell (by simp; omega) _).setCell (by simp; omega) _).setCell (by simp; omega) _)
      · have hne : (j : Int) ≠ X - c := fun e => by
          have h1 := HIF.out
          rw [show X = c + (j : Int) from by omega, HP.out, hi] at h1
          cases h1
        have HI := Lib.hid hi
        have HNE := Lib.hid hne
        clear hi hne pa pb pc h3j
        go_wp2
        go_roundw
        case rel => exact ⟨j + 1, by have := HJ.out; have := HNE.out; omega, by have := HN.out; congr 1; omega, wideN_step (by have := HJ.out; have := HNE.out; omega) HE.out (by rw [HP.out]; exact HI.out), dV⟩
        case measure => have := HJ.out; have := HNE.out; have := HN.out; simp [RowKit.intOf]; omega

set_option maxHeartbeats 2000000 in
theorem kblock_any (hr : RdQ w A L) (hl : L.length ≤ 1000000) (most n h : Int) (a : Ad) : Calls Try.prog 19 #[.agg #[.slice A L.length c0, .int .i64 most, .int .i64 n, .int .i64 h], .agg #[.int .u64 (u a.hi), .int .u64 (u a.lo), .bool a.v6]] w fun e w' => e = .returned (.agg #[.int .u64 (u (wideP L a 0).a.hi), .int .u64 (u (wideP L a 0).a.lo), .bool (wideP L a 0).a.v6, .int .i64 (wideP L a 0).n]) ∧ Below w.heap.size w w' := by
  have HRD := Lib.hid hr
  clear hr
  have cb := fun W (hr : RdQ W A L) => kwidest_any (c0 := c0) hr hl most n h a 0
  obtain ⟨P, hP⟩ : ∃ P, wideP L a 0 = P := ⟨_, rfl⟩
  rw [hP] at cb ⊢
  have CB := Lib.hid cb
  clear cb hP
  go_enter Try.func19, Try.ntmps19
  go_wp2_with fail
  refine (CB.out _ (HRD.out.keep (B := w.heap.size) (by go_grown) (Nat.le_refl _))).mono ?_
  rintro e w1 ⟨rfl, hw1⟩
  have b1 : Below w.heap.size w w1 := below_of (by go_grown) hw1
  have h3 : w1.heap[w.heap.size + 1 + 1]? = some (.cells #[.int .u64 0, .int .u64 0, .bool false, .int .i64 0] 27 (0, 0)) := (hw1.block (w.heap.size + 1 + 1) (by go_size)).trans (by repeat (first | (refine hp_new ?_; (simp; done)) | (refine hp_old ?_ ?_; · (first | (simp; done) | (simp; omega)))))
  have r0 : w1.cell? ⟨w.heap.size + 1 + 1, 0, none⟩ = some (.int .u64 0) := by rw [cell_row h3]; rfl
  have r1 : w1.cell? ⟨w.heap.size + 1 + 1, 1, none⟩ = some (.int .u64 0) := by rw [cell_row h3]; rfl
  have r2 : w1.cell? ⟨w.heap.size + 1 + 1, 2, none⟩ = some (.bool false) := by rw [cell_row h3]; rfl
  have r3 : w1.cell? ⟨w.heap.size + 1 + 1, 3, none⟩ = some (.int .i64 0) := by rw [cell_row h3]; rfl
  have q0 := frozen_of_row w1 (w.heap.size + 1 + 1) 0 _ _ h3
  have q1 := frozen_of_row w1 (w.heap.size + 1 + 1) 1 _ _ h3
  have q2 := frozen_of_row w1 (w.heap.size + 1 + 1) 2 _ _ h3
  have q3 := frozen_of_row w1 (w.heap.size + 1 + 1) 3 _ _ h3
  clear hw1 h3
  go_wp2
  refine bodyPost_ret (v := .agg #[.int .u64 (u P.a.hi), .int .u64 (u P.a.lo), .bool P.a.v6, .int .i64 P.n]) (by simp [*, results, Try.results19, go_sem] <;> rfl) rfl ⟨rfl, ?_⟩
  exact b1.trans (((((Below.refl _ _).setCell (by simp; omega) _).setCell (by simp; omega) _).setCell (by simp; omega) _).setCell (by simp; omega) _)

def govO (L : List Pr) (p : Pf) : Option Pr := (govL L p).map fun x => ⟨p, x.v⟩
set_option maxHeartbeats 2000000 in
theorem kgoverned_any (hr : RdQ w A L) (hl : L.length ≤ 1000000) (most n h : Int) (p : Pf) : Calls Try.prog 56 #[.agg #[.slice A L.length c0, .int .i64 most, .int .i64 n, .int .i64 h], .agg #[.int .u64 (u p.a.hi), .int .u64 (u p.a.lo), .bool p.a.v6, .int .i64 p.n]] w (OptPost w (govO L p)) := by
  have HRD := Lib.hid hr
  clear hr
  have cg := fun W (hr : RdQ W A L) => kgov_any (c := c0) hr hl most n h p
  obtain ⟨G, hG⟩ : ∃ G, govL L p = G := ⟨_, rfl⟩
  obtain ⟨y, hy⟩ : ∃ y, G.getD nilPr = y := ⟨_, rfl⟩
  have hl' : govO L p = G.map fun x => ⟨p, x.v⟩ := by unfold govO; rw [hG]
  rw [hl']
  unfold OptPost at cg
  rw [hG, hy] at cg
  have CG := Lib.hid cg
  have HY := Lib.hid hy
  clear cg hl' hG hy
  go_enter Try.func56, Try.ntmps56
  go_wp2_with fail
  refine (CG.out _ (HRD.out.keep (B := w.heap.size) (by go_grown) (Nat.le_refl _))).mono ?_
  rintro e w1 ⟨rfl, hw1⟩
  have b1 : Below w.heap.size w w1 := below_of (by go_grown) hw1
  have h1 : w1.heap[w.heap.size + 1 + 1]? = some (.cells #[.int .u64 0, .int .u64 0, .bool false, .int .i64 0, .int .i64 0] 29 (0, 0)) := (hw1.block (w.heap.size + 1 + 1) (by go_size)).trans (by repeat (first | (refine hp_new ?_; (simp; done)) | (refine hp_old ?_ ?_; · (first | (simp; done) | (simp; omega)))))
  have hP : PBox w1 (w.heap.size + 1) p := PBox.keep (by exact ⟨by go_simp <;> rfl, by go_simp <;> rfl, by go_simp <;> rfl, by go_simp <;> rfl, by go_simp <;> rfl, by go_simp <;> rfl, by go_simp <;> rfl, by go_simp <;> rfl, by go_size⟩) hw1
  have z1 := lt_of_block h1
  obtain ⟨pa, pb, pc, pg, -, -, -, -, pz⟩ := id hP
  have pn : ¬ w.heap.size + 1 = w1.heap.size := by omega
  have r0 : w1.cell? ⟨w.heap.size + 1 + 1, 0, none⟩ = some (.int .u64 0) := by rw [cell_row h1]; rfl
  have r1 : w1.cell? ⟨w.heap.size + 1 + 1, 1, none⟩ = some (.int .u64 0) := by rw [cell_row h1]; rfl
  have r2 : w1.cell? ⟨w.heap.size + 1 + 1, 2, none⟩ = some (.bool false) := by rw [cell_row h1]; rfl
  have r3 : w1.cell? ⟨w.heap.size + 1 + 1, 3, none⟩ = some (.int .i64 0) := by rw [cell_row h1]; rfl
  have r4 : w1.cell? ⟨w.heap.size + 1 + 1, 4, none⟩ = some (.int .i64 0) := by rw [cell_row h1]; rfl
  have q0 := frozen_of_row w1 (w.heap.size + 1 + 1) 0 _ _ h1
  have q1 := frozen_of_row w1 (w.heap.size + 1 + 1) 1 _ _ h1
  have q2 := frozen_of_row w1 (w.heap.size + 1 + 1) 2 _ _ h1
  have q3 := frozen_of_row w1 (w.heap.size + 1 + 1) 3 _ _ h1
  have q4 := frozen_of_row w1 (w.heap.size + 1 + 1) 4 _ _ h1
  clear hw1 h1 hP CG HRD
  cases G with
  | none =>
    obtain rfl : nilPr = y := HY.out
    clear HY
    go_wp2
    refine bodyPost_ret (v := .tuple #[.agg #[.int .u64 0, .int .u64 0, .bool false, .int .i64 0, .int .i64 0], .bool false]) (by simp [*, results, Try.results56, go_sem] <;> rfl) rfl ⟨rfl, ?_⟩
    go_grown
  | some y' =>
    obtain rfl : y' = y := HY.out
    clear HY
    go_wp2
    refine bodyPost_ret (v := .tuple #[.agg #[.int .u64 (u (Pr.mk p y'.v).p.a.hi), .int .u64 (u (Pr.mk p y'.v).p.a.lo), .bool (Pr.mk p y'.v).p.a.v6, .int .i64 (Pr.mk p y'.v).p.n, .int .i64 (Pr.mk p y'.v).v], .bool true]) (by simp [*, results, Try.results56, go_sem] <;> rfl) rfl ⟨rfl, ?_⟩
    go_grown
end

end Go.Proofs.Ytnmjofccedjkkaa

namespace Go.Proofs.Ytnmjofccedjkkaa
open Go.RowKit Go.Maps
set_option maxRecDepth 100000

section
variable {w : World} {A : Option Addr} {c0 : Nat} {L : List Pr}
set_option maxHeartbeats 2000000 in
theorem kleaf_any (hr : RdQ w A L) (hl : L.length ≤ 1000000) (most n h : Int) (a : Ad) : Calls Try.prog 15 #[.agg #[.slice A L.length c0, .int .i64 most, .int .i64 n, .int .i64 h], .agg #[.int .u64 (u a.hi), .int .u64 (u a.lo), .bool a.v6]] w (OptPost w (leafO L a)) := by
  have HRD := Lib.hid hr
  clear hr
  have cb := fun W (hr : RdQ W A L) => kblock_any (c0 := c0) hr hl most n h a
  have cg := fun W (hr : RdQ W A L) => kgoverned_any (c0 := c0) hr hl most n h (wideP L a 0)
  have hO : leafO L a = govO L (wideP L a 0) := rfl
  rw [← hO] at cg
  obtain ⟨P, hP⟩ : ∃ P, wideP L a 0 = P := ⟨_, rfl⟩
  obtain ⟨O, hO2⟩ : ∃ O, leafO L a = O := ⟨_, rfl⟩
  rw [hO2] at cg ⊢
  rw [hP] at cb cg
  unfold OptPost at cg ⊢
  obtain ⟨y, hy⟩ : ∃ y, O.getD nilPr = y := ⟨_, rfl⟩
  obtain ⟨ok, hk⟩ : ∃ ok, O.isSome = ok := ⟨_, rfl⟩
  rw [hy, hk] at cg ⊢
  have CB := Lib.hid cb
  have CG := Lib.hid cg
  clear cb cg hO hP hO2 hy hk
  -- kedge/kedgeref07.Leaf: the function, 7: how many operations ahead of the store, first | (go_at_call 19; exact later_of (Nat.le_refl _) (CB.out _ (HRW.out.keep (Later.below _) (Nat.le_refl _)))) | (go_at_call 56; exact later_of (Nat.le_refl _) (CG.out _ (HRW.out.keep (Later.below _) (Nat.le_refl _)))): the arms
  go_enter Try.func15, Try.ntmps15
  go_wp2_with fail
  generalize hW : World.alloc _ _ = W
  have hz : w.heap.size ≤ W.heap.size := by subst hW; go_size
  have hB : Below w.heap.size w W := by subst hW; go_grown
  have hV : VBox W w.heap.size A L.length c0 most n h := by subst hW; exact (by refine ⟨?_, ?_, ?_, ?_, ?_⟩ <;> first | (go_simp; done) | (go_simp <;> rfl) | go_size)
  have hA : ABox W (w.heap.size + 1) a := by subst hW; exact ⟨by go_simp <;> rfl, by go_simp <;> rfl, by go_simp <;> rfl, by go_size⟩
  have h3 : W.heap[w.heap.size + 1 + 1]? = some (.cells #[.int .u64 0, .int .u64 0, .bool false, .int .i64 0, .int .i64 0] 29 (0, 0)) := by subst hW; repeat (first | (refine hp_new ?_; (simp; done)) | (refine hp_old ?_ ?_; · (first | (simp; done) | (simp; omega))))
  have z3 := lt_of_block h3
  have HRW := Lib.hid (HRD.out.keep hB (Nat.le_refl _))
  obtain ⟨pa, pb, pc, pz⟩ := id hA
  obtain ⟨v0, v1, v2, v3, vz⟩ := id hV
  clear hW hV hA HRD
  have Lpa := fun x : Later W.heap.size W => (x.cell pz).trans pa
  have Lpb := fun x : Later W.heap.size W => (x.cell pz).trans pb
  have Lpc := fun x : Later W.heap.size W => (x.cell pz).trans pc
  have Lv0 := fun x : Later W.heap.size W => (x.cell vz).trans v0
  have Lv1 := fun x : Later W.heap.size W => (x.cell vz).trans v1
  have Lv2 := fun x : Later W.heap.size W => (x.cell vz).trans v2
  have Lv3 := fun x : Later W.heap.size W => (x.cell vz).trans v3
  refine region_tail 7 W.heap.size (by kernel_rfl) (by kernel_rfl) ?_
  simp only [List.take_succ_cons, List.take_zero, List.drop_succ_cons, List.drop_zero]
  repeat (go_big_quiet_step (first | (go_at_call 19; exact later_of (Nat.le_refl _) (CB.out _ (HRW.out.keep (Later.below _) (Nat.le_refl _)))) | (go_at_call 56; exact later_of (Nat.le_refl _) (CG.out _ (HRW.out.keep (Later.below _) (Nat.le_refl _))))))
  refine wpQuiet_nil ?_
  intro x
  have hx := x.below
  generalize x.at = V at hx ⊢
  clear x Lpa Lpb Lpc Lv0 Lv1 Lv2 Lv3 pa pb pc v0 v1 v2 v3
  replace h3 := (hx.block _ z3).trans h3
  have bV := hB.trans (hx.mono hz)
  clear hx
  have r0 : V.cell? ⟨w.heap.size + 1 + 1, 0, none⟩ = some (.int .u64 0) := by rw [cell_row h3]; rfl
  have r1 : V.cell? ⟨w.heap.size + 1 + 1, 1, none⟩ = some (.int .u64 0) := by rw [cell_row h3]; rfl
  have r2 : V.cell? ⟨w.heap.size + 1 + 1, 2, none⟩ = some (.bool false) := by rw [cell_row h3]; rfl
  have r3 : V.cell? ⟨w.heap.size + 1 + 1, 3, none⟩ = some (.int .i64 0) := by rw [cell_row h3]; rfl
  have r4 : V.cell? ⟨w.heap.size + 1 + 1, 4, none⟩ = some (.int .i64 0) := by rw [cell_row h3]; rfl
  have q0 := frozen_of_row V (w.heap.size + 1 + 1) 0 _ _ h3
  have q1 := frozen_of_row V (w.heap.size + 1 + 1) 1 _ _ h3
  have q2 := frozen_of_row V (w.heap.size + 1 + 1) 2 _ _ h3
  have q3 := frozen_of_row V (w.heap.size + 1 + 1) 3 _ _ h3
  have q4 := frozen_of_row V (w.heap.size + 1 + 1) 4 _ _ h3
  clear h3
  go_wp2
  refine bodyPost_ret (v := .tuple #[.agg #[.int .u64 (u y.p.a.hi), .int .u64 (u y.p.a.lo), .bool y.p.a.v6, .int .i64 y.p.n, .int .i64 y.v], .bool ok]) (by simp [*, results, Try.results15, go_sem] <;> rfl) rfl ⟨rfl, ?_⟩
  exact bV.trans ((((((Below.refl _ _).setCell (by simp; omega) _).setCell (by simp; omega) _).setCell (by simp; omega) _).setCell (by simp; omega) _).setCell (by simp; omega) _)
set_option maxHeartbeats 2000000 in
theorem kexact_any (hr : RdQ w A L) (hl : L.length ≤ 1000000) (most n h : Int) (a : Ad) : Calls Try.prog 17 #[.agg #[.slice A L.length c0, .int .i64 most, .int .i64 n, .int .i64 h], .agg #[.int .u64 (u a.hi), .int .u64 (u a.lo), .bool a.v6]] w (OptPost w (exactO L a)) := by
  have HRD := Lib.hid hr
  clear hr
  have cb := rpof_any a (wid a.v6)
  have cg := fun W (hr : RdQ W A L) => kgoverned_any (c0 := c0) hr hl most n h (pof a (wid a.v6))
  have hO : exactO L a = govO L (pof a (wid a.v6)) := by unfold exactO govO; rw [gov_all]
  rw [← hO] at cg
  obtain ⟨P, hP⟩ : ∃ P, pof a (wid a.v6) = P := ⟨_, rfl⟩
  obtain ⟨O, hO2⟩ : ∃ O, exactO L a = O := ⟨_, rfl⟩
  rw [hO2] at cg ⊢
  rw [hP] at cb cg
  unfold OptPost at cg ⊢
  obtain ⟨y, hy⟩ : ∃ y, O.getD nilPr = y := ⟨_, rfl⟩
  obtain ⟨ok, hk⟩ : ∃ ok, O.isSome = ok := ⟨_, rfl⟩
  rw [hy, hk] at cg ⊢
  have CB := Lib.hid cb
  have CG := Lib.hid cg
  clear cb cg hO hP hO2 hy hk
  -- kedge/kedgeref07.Exact: the function, 9: how many operations ahead of the store, first | (go_at_call 58; exact later_of (Nat.le_refl _) (CB.out _)) | (go_at_call 56; exact later_of (Nat.le_refl _) (CG.out _ (HRW.out.keep (Later.below _) (Nat.le_refl _)))) | (go_at_call 59; exact later_same (refWidth_any _ _)): the arms
  go_enter Try.func17, Try.ntmps17
  go_wp2_with fail
  generalize hW : World.alloc _ _ = W
  have hz : w.heap.size ≤ W.heap.size := by subst hW; go_size
  have hB : Below w.heap.size w W := by subst hW; go_grown
  have hV : VBox W w.heap.size A L.length c0 most n h := by subst hW; exact (by refine ⟨?_, ?_, ?_, ?_, ?_⟩ <;> first | (go_simp; done) | (go_simp <;> rfl) | go_size)
  have hA : ABox W (w.heap.size + 1) a := by subst hW; exact ⟨by go_simp <;> rfl, by go_simp <;> rfl, by go_simp <;> rfl, by go_size⟩
  have h3 : W.heap[w.heap.size + 1 + 1]? = some (.cells #[.int .u64 0, .int .u64 0, .bool false, .int .i64 0, .int .i64 0] 29 (0, 0)) := by subst hW; repeat (first | (refine hp_new ?_; (simp; done)) | (refine hp_old ?_ ?_; · (first | (simp; done) | (simp; omega))))
  have z3 := lt_of_block h3
  have HRW := Lib.hid (HRD.out.keep hB (Nat.le_refl _))
  obtain ⟨pa, pb, pc, pz⟩ := id hA
  obtain ⟨v0, v1, v2, v3, vz⟩ := id hV
  clear hW hV hA HRD
  have Lpa := fun x : Later W.heap.size W => (x.cell pz).trans pa
  have Lpb := fun x : Later W.heap.size W => (x.cell pz).trans pb
  have Lpc := fun x : Later W.heap.size W => (x.cell pz).trans pc
  have Lv0 := fun x : Later W.heap.size W => (x.cell vz).trans v0
  have Lv1 := fun x : Later W.heap.size W => (x.cell vz).trans v1
  have Lv2 := fun x : Later W.heap.size W => (x.cell vz).trans v2
  have Lv3 := fun x : Later W.heap.size W => (x.cell vz).trans v3
  refine region_tail 9 W.heap.size (by kernel_rfl) (by kernel_rfl) ?_
  simp only [List.take_succ_cons, List.take_zero, List.drop_succ_cons, List.drop_zero]
  repeat (go_big_quiet_step (first | (go_at_call 58; exact later_of (Nat.le_refl _) (CB.out _)) | (go_at_call 56; exact later_of (Nat.le_refl _) (CG.out _ (HRW.out.keep (Later.below _) (Nat.le_refl _)))) | (go_at_call 59; exact later_same (refWidth_any _ _))))
  refine wpQuiet_nil ?_
  intro x
  have hx := x.below
  generalize x.at = V at hx ⊢
  clear x Lpa Lpb Lpc Lv0 Lv1 Lv2 Lv3 pa pb pc v0 v1 v2 v3
  replace h3 := (hx.block _ z3).trans h3
  have bV := hB.trans (hx.mono hz)
  clear hx
  have r0 : V.cell? ⟨w.heap.size + 1 + 1, 0, none⟩ = some (.int .u64 0) := by rw [cell_row h3]; rfl
  have r1 : V.cell? ⟨w.heap.size + 1 + 1, 1, none⟩ = some (.int .u64 0) := by rw [cell_row h3]; rfl
  have r2 : V.cell? ⟨w.heap.size + 1 + 1, 2, none⟩ = some (.bool false) := by rw [cell_row h3]; rfl
  have r3 : V.cell? ⟨w.heap.size + 1 + 1, 3, none⟩ = some (.int .i64 0) := by rw [cell_row h3]; rfl
  have r4 : V.cell? ⟨w.heap.size + 1 + 1, 4, none⟩ = some (.int .i64 0) := by rw [cell_row h3]; rfl
  have q0 := frozen_of_row V (w.heap.size + 1 + 1) 0 _ _ h3
  have q1 := frozen_of_row V (w.heap.size + 1 + 1) 1 _ _ h3
  have q2 := frozen_of_row V (w.heap.size + 1 + 1) 2 _ _ h3
  have q3 := frozen_of_row V (w.heap.size + 1 + 1) 3 _ _ h3
  have q4 := frozen_of_row V (w.heap.size + 1 + 1) 4 _ _ h3
  clear h3
  go_wp2
  refine bodyPost_ret (v := .tuple #[.agg #[.int .u64 (u y.p.a.hi), .int .u64 (u y.p.a.lo), .bool y.p.a.v6, .int .i64 y.p.n, .int .i64 y.v], .bool ok]) (by simp [*, results, Try.results17, go_sem] <;> rfl) rfl ⟨rfl, ?_⟩
  exact bV.trans ((((((Below.refl _ _).setCell (by simp; omega) _).setCell (by simp; omega) _).setCell (by simp; omega) _).setCell (by simp; omega) _).setCell (by simp; omega) _)

theorem QBox.hold {w w' : World} {b : Nat} {x : Pr} (h : QBox w b x) (hb : Below w.heap.size w w') : QBox w' b x := by
  obtain ⟨h0, h1, h2, h3, h4, hz⟩ := h
  exact ⟨(hb.cell hz).trans h0, (hb.cell hz).trans h1, (hb.cell hz).trans h2, (hb.cell hz).trans h3, (hb.cell hz).trans h4, Nat.lt_of_lt_of_le hz hb.size⟩
set_option maxHeartbeats 2000000 in
theorem kgood_any (hr : RdQ w A L) (hl : L.length ≤ 1000000) (most n h : Int) (x : Pr) : Calls Try.prog 23 #[.agg #[.slice A L.length c0, .int .i64 most, .int .i64 n, .int .i64 h], .agg #[.int .u64 (u x.p.a.hi), .int .u64 (u x.p.a.lo), .bool x.p.a.v6, .int .i64 x.p.n, .int .i64 x.v]] w fun e w' => e = .returned (.bool (goodL L x)) ∧ Below w.heap.size w w' := by
  have HRD := Lib.hid hr
  clear hr
  have cg := fun W (hr : RdQ W A L) => kgoverned_any (c0 := c0) hr hl most n h x.p
  have ci := fun W (hr : RdQ W A L) => kins6_any (c := c0) hr hl most n h x.p
  obtain ⟨G, hG⟩ : ∃ G, govL L x.p = G := ⟨_, rfl⟩
  obtain ⟨I, hI⟩ : ∃ I, insL L x.p = I := ⟨_, rfl⟩
  have hl' : goodL L x = (G.isSome && ((G.getD nilPr).v == x.v && !I)) := by unfold goodL; rw [hG, hI]
  have ho : govO L x.p = G.map fun z => ⟨x.p, z.v⟩ := by unfold govO; rw [hG]
  rw [hl']
  unfold OptPost at cg
  rw [ho] at cg
  rw [hI] at ci
  have CI := Lib.hid ci
  clear ci hl' hG hI ho
  cases G with
  | none =>
    simp only [Option.map_none, Option.getD_none, Option.isSome_none] at cg
    have CG := Lib.hid cg
    clear cg
    go_enter Try.func23, Try.ntmps23
    go_wp2_with fail
    refine (CG.out _ (HRD.out.keep (B := w.heap.size) (by go_grown) (Nat.le_refl _))).mono ?_
    rintro e w1 ⟨rfl, hw1⟩
    have b1 : Below w.heap.size w w1 := below_of (by go_grown) hw1
    have z1 := b1.size
    clear hw1
    go_wp2
    go_ret
    refine ⟨rfl, ?_⟩
    go_grown
  | some z =>
    simp only [Option.map_some, Option.getD_some, Option.isSome_some] at cg
    have CG := Lib.hid cg
    have hpb := prB_iff ⟨x.p, z.v⟩ x
    have hde : decide ((⟨x.p, z.v⟩ : Pr) = x) = (z.v == x.v) := by
      obtain ⟨q, v⟩ := x
      rw [Bool.eq_iff_iff]
      simp
    rw [hde] at hpb
    clear cg hde
    simp only [Option.isSome_some, Option.getD_some, Bool.true_and]
    go_enter Try.func23, Try.ntmps23
    go_wp2_with fail
    refine (CG.out _ (HRD.out.keep (B := w.heap.size) (by go_grown) (Nat.le_refl _))).mono ?_
    rintro e w1 ⟨rfl, hw1⟩
    have b1 : Below w.heap.size w w1 := below_of (by go_grown) hw1
    have hX : QBox w1 (w.heap.size + 1) x := QBox.hold (by refine ⟨?_, ?_, ?_, ?_, ?_, ?_⟩ <;> first | (go_simp; done) | (go_simp <;> rfl) | go_size) hw1
    have hV : VBox w1 w.heap.size A L.length c0 most n h := VBox.keep (by refine ⟨?_, ?_, ?_, ?_, ?_⟩ <;> first | (go_simp; done) | (go_simp <;> rfl) | go_size) hw1
    obtain ⟨x0, x1, x2, x3, x4, xz⟩ := id hX
    obtain ⟨v0, v1, v2, v3, vz⟩ := id hV
    have HR1 := Lib.hid (HRD.out.keep b1 (Nat.le_refl _))
    have xn : ¬ w.heap.size + 1 = w1.heap.size := by omega
    have vn : ¬ w.heap.size = w1.heap.size := by omega
    clear hw1 CG hX hV
    cases hv : (z.v == x.v)
    · rw [hv] at hpb
      have hpb' : prB (u x.p.a.hi) (u x.p.a.lo) x.p.a.v6 x.p.n z.v (u x.p.a.hi) (u x.p.a.lo) x.p.a.v6 x.p.n x.v = false := hpb
      go_wp2
      go_ret
      refine ⟨ret_bool (by rw [hv]; rfl), ?_⟩
      go_grown
    · rw [hv] at hpb
      have hpb' : prB (u x.p.a.hi) (u x.p.a.lo) x.p.a.v6 x.p.n z.v (u x.p.a.hi) (u x.p.a.lo) x.p.a.v6 x.p.n x.v = true := hpb
      go_wp2_with fail
      refine (CI.out _ (HR1.out.keep (B := w1.heap.size) (by go_grown) (Nat.le_refl _))).mono ?_
      rintro e w2 ⟨rfl, hw2⟩
      have b2 : Below w.heap.size w w2 := below_of (by go_grown) hw2
      clear hw2 x0 x1 x2 x3 x4 v0 v1 v2 v3
      go_wp2
      go_ret
      exact ⟨ret_bool (by rw [hv]; simp), b2⟩
end

end Go.Proofs.Ytnmjofccedjkkaa
