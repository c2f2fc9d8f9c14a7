/-
  CoverIs: for every input the call returns true, and each argument reads afterwards as it read before. No condition.
-/
import Derived.Test.YtggceecolfebjaaX4
import Derived.Test.YtggceecolfebjaaX5
import Derived.Deep.DeepCutAuto
import Derived.Deep.RegionHeld3
namespace Go.Proofs.Ytggceecolfebjaa
open Go.RowKit Go.Maps
set_option maxRecDepth 100000

theorem keep8I {W w' : World} {b q : Nat} {p : Pf} {A : Option Addr} {l c : Nat} {most n h : Int} (hb : Below W.heap.size W w') (hp : PBox W b p) (hv : VBox W q A l c most n h) :
    w'.cell? ⟨b, 0, none⟩ = some (.int .u64 (u p.a.hi)) ∧ w'.cell? ⟨b, 1, none⟩ = some (.int .u64 (u p.a.lo)) ∧ w'.cell? ⟨b, 2, none⟩ = some (.bool p.a.v6) ∧ w'.cell? ⟨b, 3, none⟩ = some (.int .i64 p.n) ∧
    w'.cell? ⟨q, 0, none⟩ = some (.slice A l c) ∧ w'.cell? ⟨q, 1, none⟩ = some (.int .i64 most) ∧ w'.cell? ⟨q, 2, none⟩ = some (.int .i64 n) ∧ w'.cell? ⟨q, 3, none⟩ = some (.int .i64 h) ∧ Below W.heap.size W w' := by
  obtain ⟨p0, p1, p2, p3, -⟩ := hp.keep hb
  obtain ⟨v0, v1, v2, v3, -⟩ := hv.keep hb
  exact ⟨p0, p1, p2, p3, v0, v1, v2, v3, hb⟩
set_option maxHeartbeats 8000000 in
theorem coveris_law (A : Option Addr) (cap : Nat) (ls : List Pr) (p : Pf) (k : Int) (w : World) (hr : RdQ w A ls) :
    Calls Try.prog 3 #[.slice A ls.length cap, .agg #[.int .u64 (u p.a.hi), .int .u64 (u p.a.lo), .bool p.a.v6, .int .i64 p.n], .int .i64 k] w fun e w' => e = .returned (.bool true) ∧ Below w.heap.size w w' := by
  have HRD := Lib.hid hr
  clear hr
  by_cases hlen : 30 < ls.length
  · have t0 : decide ((30 : Int) < (ls.length : Int)) = true := by simp; omega
    go_enter Try.func3, Try.ntmps3
    go_wp2_with fail
    refine (awake8_any _).mono ?_
    rintro e w1 ⟨rfl, hw1⟩
    have b1 : Below w.heap.size w w1 := below_of (by go_grown) hw1
    go_wp2
    go_ret
    exact ⟨rfl, b1⟩
  · have t0 : decide ((30 : Int) < (ls.length : Int)) = false := by simp; omega
    go_enter Try.func3, Try.ntmps3
    go_wp2_with fail
    refine (awake8_any _).mono ?_
    rintro e w1 ⟨rfl, hw1⟩
    have b1 : Below w.heap.size w w1 := below_of (by go_grown) hw1
    have Hp1 : Hid (PBox w1 (w.heap.size) p) := Lib.hid (PBox.keep (by exact ⟨by go_simp <;> rfl, by go_simp <;> rfl, by go_simp <;> rfl, by go_simp <;> rfl, by go_simp <;> rfl, by go_simp <;> rfl, by go_simp <;> rfl, by go_simp <;> rfl, by go_size⟩) hw1)
    clear hw1
    go_wp2_with fail
    refine (filled8_any A cap ls _ (HRD.out.keep b1 (Nat.le_refl _)) (by omega)).mono ?_
    rintro e w3 ⟨r, S, rfl, hR3, hm3, hS3, hb3⟩
    have Hp3 := Lib.hid (Hp1.out.keep hb3)
    have b3 := b1.trans (hb3.mono b1.size)
    have z3 := b3.size
    have HR3 := Lib.hid hR3
    clear hR3 hm3 hS3 hb3 b1 t0 Hp1
    go_wp2_with fail
    refine (plain8_any A cap ls _ (HRD.out.keep b3 (Nat.le_refl _)) (by omega)).mono ?_
    rintro e w4 ⟨A4, c4, most, rfl, hq4, hb4⟩
    have hL4 := fill_len ls ls.length (Nat.le_refl _)
    have Hp4 := Lib.hid (Hp3.out.keep hb4)
    have HR4 := Lib.hid (HR3.out.keep hb4)
    have b4 := b3.trans (hb4.mono b3.size)
    have z4 := b4.size
    generalize (fillK ls ls.length).1 = L at HR4 hq4 hL4
    generalize (fillK ls ls.length).2 = M at HR4
    have HQ4 := Lib.hid hq4
    have hN := all_len (n := 30) (by omega) p (L := L)
    have ca := fun W (H : RibS W r S 200 200 L M) => pieces_any H p k
    have cb := fun W (H : RdQ W A4 L) => kpieces8_any (c := c4) H (by omega) most 200 200 p k (by omega)
    have cc := fun W (H : RibS W r S 200 200 L M) => count_any H p (by omega)
    have cd := fun W (H : RdQ W A4 L) => kcount8_any (c := c4) H (by omega) most 200 200 p (by omega)
    generalize decide ((allB L p).length ≤ clampM k) = ok at ca cb
    have hlt := List.length_take_le (clampM k) (piecesL L p)
    have hlt2 : ((piecesL L p).take (clampM k)).length ≤ 4000 := by
      rw [List.length_take, pieces_len]
      omega
    obtain ⟨l, hl⟩ : ∃ l, (piecesL L p).take (clampM k) = l := ⟨_, rfl⟩
    rw [hl] at ca cb hlt2
    have CA := Lib.hid ca
    have CB := Lib.hid cb
    have CC := Lib.hid cc
    have CD := Lib.hid cd
    have HLT := Lib.hid hlt2
    generalize ((allB L p).length : Int) = N at CC CD
    clear ca cb cc cd hN hlt hlt2 hl hq4 HRD HR3 Hp3 b3 hb4 hL4
    go_upto_region 6 with fail
    generalize hW : World.alloc _ _ = w5
    have e5 : Below w4.heap.size w4 w5 := by subst hW; go_grown
    have hv5 : VBox w5 w4.heap.size A4 L.length c4 most 200 200 := by subst hW; exact ⟨by go_simp <;> rfl, by go_simp <;> rfl, by go_simp <;> rfl, by go_simp <;> rfl, by go_size⟩
    have Hp5 := Lib.hid (Hp4.out.keep e5)
    have HR5 := Lib.hid (HR4.out.keep e5)
    have HQ5 := Lib.hid (HQ4.out.keep (B := w4.heap.size) e5 (Nat.le_refl _))
    have HV5 := Lib.hid hv5
    have b5 := b4.trans (e5.mono z4)
    clear hW e5 hv5 Hp4 HR4 HQ4 b4
    obtain ⟨p0, p1, p2, p3, -⟩ := id Hp5.out
    go_wp2_with fail
    refine (CA.out _ HR5.out).mono ?_
    rintro e w6 hq
    obtain ⟨A6, c6, rfl, -, -, hrd6, -, hw6⟩ := hq.rd
    have Hp6 := Lib.hid (Hp5.out.keep hw6)
    have HR6 := Lib.hid (HR5.out.keep hw6)
    have z5 := b5.size
    have HQ6 := Lib.hid (HQ5.out.keep (B := w5.heap.size) hw6 (Nat.le_refl _))
    have HV6 := Lib.hid (HV5.out.keep hw6)
    have RD6 := Lib.hid hrd6
    have b6 := b5.trans (hw6.mono z5)
    have z6 := b6.size
    clear hq hrd6 hw6 Hp5 HR5 HQ5 HV5 b5 p0 p1 p2 p3
    obtain ⟨p0, p1, p2, p3, -⟩ := id Hp6.out
    obtain ⟨v0, v1, v2, v3, -⟩ := id HV6.out
    go_wp2_with fail
    refine (CB.out _ HQ6.out).mono ?_
    rintro e w7 ⟨A7, c7, rfl, hrd7, hw7⟩
    have Hp7 := Lib.hid (Hp6.out.keep hw7)
    have HR7 := Lib.hid (HR6.out.keep hw7)
    have HQ7 := Lib.hid (HQ6.out.keep (B := w6.heap.size) hw7 (Nat.le_refl _))
    have HV7 := Lib.hid (HV6.out.keep hw7)
    have RD67 := Lib.hid (RD6.out.kept hw7)
    have RD7 := Lib.hid hrd7
    have b7 := b6.trans (hw7.mono z6)
    have z7 := b7.size
    clear hrd7 hw7 Hp6 HR6 HQ6 HV6 RD6 b6 p0 p1 p2 p3 v0 v1 v2 v3 CA CB
    obtain ⟨W, rfl⟩ : ∃ W, W = w7 := ⟨_, rfl⟩
    go_upto_region 8 with fail
    go_region_held3 (fun w' => w'.cell? ⟨w.heap.size, 0, none⟩ = some (.int .u64 (u p.a.hi)) ∧ w'.cell? ⟨w.heap.size, 1, none⟩ = some (.int .u64 (u p.a.lo)) ∧ w'.cell? ⟨w.heap.size, 2, none⟩ = some (.bool p.a.v6) ∧ w'.cell? ⟨w.heap.size, 3, none⟩ = some (.int .i64 p.n) ∧
        w'.cell? ⟨w4.heap.size, 0, none⟩ = some (.slice A4 L.length c4) ∧ w'.cell? ⟨w4.heap.size, 1, none⟩ = some (.int .i64 most) ∧ w'.cell? ⟨w4.heap.size, 2, none⟩ = some (.int .i64 200) ∧ w'.cell? ⟨w4.heap.size, 3, none⟩ = some (.int .i64 200) ∧ Below W.heap.size W w')
      (first | exact keep8I hkd Hp7.out HV7.out | exact keep8I hkc Hp7.out HV7.out | exact keep8I hkb Hp7.out HV7.out | exact keep8I hka Hp7.out HV7.out | (refine keep8I ?_ Hp7.out HV7.out; go_grown))
      (first
        | (go_at_call 11; refine (theirs_any A6 c6 l _ (RD67.out.kept (by go_grown)) (by have := HLT.out; omega)).mono ?_; rintro e wa hqa; obtain ⟨Aa, ca, rfl, -, -, hrda, hw⟩ := rowrc_rd hqa; have hka := below_of (w := W) (by go_grown) hw; have RDa := Lib.hid hrda; clear hqa hrda hw)
        | (go_at_call 10; refine (same8_any l Aa A7 ca c7 _ RDa.out (RD7.out.kept hka) (by have := HLT.out; omega)).mono ?_; rintro e wb ⟨rfl, hw⟩; have hkb := hka.trans (hw.mono hka.size); clear hw)
        | (go_at_call 12; refine (CC.out _ (HR7.out.keep hkb)).mono ?_; rintro e wc ⟨rfl, hw⟩; have hkc := hkb.trans (hw.mono hkb.size); clear hw)
        | (go_at_call 13; refine (CD.out _ (HQ7.out.keep (B := W.heap.size) hkc (Nat.le_refl _))).mono ?_; rintro e wd ⟨rfl, hw⟩; have hkd := hkc.trans (hw.mono hkc.size); clear hw))
    all_goals
      go_wp2
      go_ret
      exact ⟨rfl, b7.trans (hkd.mono z7)⟩

end Go.Proofs.Ytggceecolfebjaa

namespace Go.Proofs.Ytggceecolfebjaa
open Go.ChangeShapes Go.WideShapes Go.ChangeAt Go.RowKit

set_option maxRecDepth 100000 in
theorem coverIs_lifted (os : Os) (started : os.Started) (H : Type) (enc : TypeId × Value → H) :
    ReturnsInHanded {} Try.checked os 3 .any (Rows.coverIsSpec.pre6 enc Try.prog Try.f3 Rows.coverIsRow.domain false) (Rows.coverIsSpec.post enc Try.prog Try.f3 false true false false) := by
  refine returnsInHanded_of_change (C := Try.checked) own started (by kernel_rfl) Try.func3
    (ChangeSpec.witness6 (enc := enc) (C := Try.checked) false ⟨#[], #[.slice none 0 0, .agg #[.int .u64 0, .int .u64 0, .bool false, .int .i64 0], .int .i64 0], []⟩ 8 (by kernel_rfl) (by kernel_rfl) (by kernel_rfl) (by kernel_rfl)) ?_
  intro W base args ds gs before hval0 hW hcnd _
  have hval : ∀ (j : Nat) t v, Try.f3.params[j]? = some t → args[j]? = some v → Value.okWide Try.prog W .any base t v := hval0
  have hW' := hW
  obtain ⟨p, q, hA0, hV, rfl, hfz, hnd⟩ := hW
  have hA : DataW.TrodAll enc Try.prog W 0 (fun _ => true) true Try.f3.params.toList args.toList ds p := hA0
  rw [Try.params3] at hA hval
  obtain ⟨v0, vs0, d0, ds0, p0, q0, hargs, rfl, rfl, h0, r0⟩ := trodAll_cons hA
  obtain ⟨v1, vs1, d1, ds1, p1, q1, rfl, rfl, rfl, h1, r1⟩ := trodAll_cons r0
  obtain ⟨v2, vs2, d2, ds2, p2, q2, rfl, rfl, rfl, h2, r2⟩ := trodAll_cons r1
  obtain ⟨rfl, rfl, rfl⟩ := trodAll_nil r2
  obtain rfl : args = #[v0, v1, v2] := by cases args; simp_all
  obtain ⟨rfl, rfl⟩ := trodVars_none hV
  have lt0 : ∀ x ∈ p0, x.block < W.heap.size := by obtain ⟨m, hm⟩ := h0; exact DataW.trod_lt m _ _ _ hm
  obtain ⟨A0, cap0, l0, rfl, w0⟩ := open_prs (hval 0 22 v0 rfl rfl) h0 (fun _ => rfl)
  have lt1 : ∀ x ∈ p1, x.block < W.heap.size := by obtain ⟨m, hm⟩ := h1; exact DataW.trod_lt m _ _ _ hm
  obtain ⟨a1, rfl, w1⟩ := open_pf (hval 1 27 v1 rfl rfl) h1
  have lt2 : ∀ x ∈ p2, x.block < W.heap.size := by obtain ⟨m, hm⟩ := h2; exact DataW.trod_lt m _ _ _ hm
  have k2 := h2
  obtain ⟨a2, rfl, e2, f2, w2⟩ := open_int Try.underlying3 (hval 2 3 v2 rfl rfl) h2
  clear hA0 hval0
  refine (coveris_law A0 cap0 l0 a1 a2 W w0).mono fun e W' ⟨he, bel⟩ => ?_
  subst he
  exact ⟨_, rfl, _, _, _, [], _, [], hW', trodAll_mk1 (shut_bool Try.underlying4 _), (trodAll_cons_mk (Below.trod laidOut (by kernel_rfl) (of_decide_eq_true (by kernel_rfl)) h0 bel lt0) (trodAll_cons_mk (Below.trod laidOut (by kernel_rfl) (of_decide_eq_true (by kernel_rfl)) h1 bel lt1) (trodAll_cons_mk (Below.trod laidOut (by kernel_rfl) (of_decide_eq_true (by kernel_rfl)) h2 bel lt2) trodAll_mk0))), rfl, bel.frame _, fun h => by cases h⟩

theorem coverIs_holds : Rows.CoverIsSaid :=
  OpenClaim.holds_of_wide 3 Try.f3 rfl rfl rfl rfl rfl rfl rfl ⟨rfl, rfl, rfl, rfl, rfl⟩ rfl rfl rfl rfl rfl (by kernel_rfl) Try.func3 (by kernel_rfl)
    (of_decide_eq_true (by kernel_rfl)) (by unfold Func.isWrapper; first | (rw [if_pos (by decide +kernel)]; kernel_rfl) | (rw [if_neg (by decide +kernel)]; exact ⟨rfl, rfl⟩))
    (fun os started H enc _ => coverIs_lifted os started H enc)

end Go.Proofs.Ytggceecolfebjaa
