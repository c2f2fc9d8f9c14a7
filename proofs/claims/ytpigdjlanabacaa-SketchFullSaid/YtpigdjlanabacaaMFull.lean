/-
  SketchFull: for every input the call returns true, and each argument reads afterwards as it read before. No condition.
-/
import Derived.Test.YtpigdjlanabacaaX2
import Derived.Test.YtpigdjlanabacaaRowP
namespace Go.Proofs.Ytpigdjlanabacaa
open Go.RowKit
set_option maxRecDepth 100000

set_option maxHeartbeats 2000000 in
theorem full11_law (rows width : Int) (p : Pf) (w : World) : Calls Try.prog 6 #[.int .i64 rows, .int .i64 width, .agg #[.int .u64 (u p.a.hi), .int .u64 (u p.a.lo), .bool p.a.v6, .int .i64 p.n]] w fun e w' => e = .returned (.bool true) ∧ Below w.heap.size w w' := by
  go_enter Try.func6, Try.ntmps6
  go_wp2_with fail
  refine (awake11_any _).mono ?_
  rintro e w1 ⟨rfl, b1⟩
  have HP := Lib.hid (PB.made w p b1)
  have b2 := below_of (w := w) (by go_grown) b1
  have HB := Lib.hid b2
  have z1 := b2.size
  clear b1 b2
  generalize hbp : w.heap.size = bp at HP
  go_wp2_with fail
  refine (wk_new rows width w1).mono ?_
  rintro e w2 ⟨t, rfl, h2⟩
  have HD := Lib.hid (new_does rows width p)
  have HC := Lib.hid (new_cnt rows width p)
  generalize Sk.new rows width = s0 at h2 HD HC
  have H2 := Lib.hid h2
  have HP2 := Lib.hid (HP.out.keep h2.below)
  clear h2
  obtain ⟨zp, p0, p1, p2, p3⟩ := HP2.out.at
  go_wp2_with fail
  refine (rpsane_any p _).mono ?_
  rintro e w3 ⟨rfl, b3⟩
  have H3 := Lib.hid (H2.out.keep b3)
  have HP3 := Lib.hid (HP2.out.keep b3)
  have HW : Hid (∀ {s : Sk} {wr : World}, WK noXk w1 t s wr → Below w.heap.size w wr) := Lib.hid (fun h => HB.out.trans (h.below.mono z1))
  clear p0 p1 p2 p3 zp b3 H2 HP2
  obtain ⟨zp, p0, p1, p2, p3⟩ := HP3.out.at
  cases hs : psane p
  · have hc := fun W h => wk_count (wr := W) (X := noXk) (w0 := w1) (t := t) (s := s0) h p
    rw [cnt_no (HD.out.trans hs)] at hc
    have HCt := Lib.hid hc
    clear hc hs
    go_wp2_with fail
    refine (HCt.out _ H3.out).mono ?_
    rintro e w4 ⟨rfl, b4⟩
    have H4 := Lib.hid (H3.out.keep b4)
    clear b4
    go_wp2
    go_ret
    exact ⟨rfl, HW.out H4.out⟩
  · have HDo := Lib.hid (HD.out.trans hs)
    clear hs
    go_wp2_with fail
    go_loopw [9] (fun i wr => ∃ (k : Nat) (s : Sk), k ≤ 300 ∧ i = .int .i64 k ∧ s.does p = true ∧ s.cnt p = min k 255 ∧ WK noXk w1 t s wr) (fun i _ => 300 - (intOf i).toNat)
    case atStart => exact ⟨0, s0, by omega, rfl, HDo.out, by rw [HC.out]; rfl, H3.out⟩
    case round =>
      obtain ⟨k, s, hk, rfl, hd, hcn, hh⟩ := hrel
      have HS := Lib.hid hh
      have HSd := Lib.hid hd
      have HSc := Lib.hid hcn
      have HPr := Lib.hid (HP.out.keep hh.below)
      clear hh hd hcn p0 p1 p2 p3 zp
      obtain ⟨zp, p0, p1, p2, p3⟩ := HPr.out.at
      by_cases hlt : k < 300
      · have t1 : decide ((k : Int) < 300) = true := by simp; omega
        go_wp2_with fail
        refine (wk_add HS.out p).mono ?_
        rintro e w5 ⟨rfl, h5, -⟩
        have H5 := Lib.hid h5
        clear h5
        go_wp2
        go_roundw
        case rel => exact ⟨k + 1, s.add p, by omega, by go_num, (add_does _ _ _).trans HSd.out, by rw [add_self HSd.out, HSc.out]; omega, H5.out⟩
        case measure => simp [intOf]; omega
      · obtain rfl : k = 300 := by omega
        have HSc2 : Hid (s.cnt p = 255) := Lib.hid HSc.out
        have hc := wk_count HS.out p
        rw [HSc2.out] at hc
        have HCt := Lib.hid hc
        clear hc HSc
        go_wp2_with fail
        refine HCt.out.mono ?_
        rintro e w4 ⟨rfl, b4⟩
        have H4 := Lib.hid (HS.out.keep b4)
        clear b4 HS HCt
        go_wp2_with fail
        go_loopw [11] (fun i wr => ∃ (k : Nat) (s : Sk), k ≤ 7 ∧ i = .int .i64 k ∧ s.cnt p = 255 / 2 ^ k ∧ WK noXk w1 t s wr) (fun i _ => 7 - (intOf i).toNat)
        case atStart => exact ⟨0, s, by omega, rfl, HSc2.out, H4.out⟩
        case round =>
          clear HSc2 HSd H4 HPr p0 p1 p2 p3 zp
          obtain ⟨j, s', hj, rfl, hcn, hh⟩ := hrel
          have HS := Lib.hid hh
          have HSc := Lib.hid hcn
          have HPr := Lib.hid (HP.out.keep hh.below)
          clear hh hcn
          by_cases hlt2 : j < 7
          · have t2 : decide ((j : Int) < 7) = true := by simp; omega
            go_wp2_with fail
            refine (wk_decay HS.out).mono ?_
            rintro e w5 ⟨rfl, h5, -⟩
            have H5 := Lib.hid h5
            clear h5
            go_wp2
            go_roundw
            case rel => exact ⟨j + 1, s'.dec, by omega, by go_num, by rw [dec_cnt, HSc.out, Nat.div_div_eq_div_mul, Nat.pow_succ], H5.out⟩
            case measure => simp [intOf]; omega
          · obtain rfl : j = 7 := by omega
            have HSc2 : Hid (s'.cnt p = 1) := Lib.hid HSc.out
            have hc := wk_count HS.out p
            rw [HSc2.out] at hc
            have HCt := Lib.hid hc
            obtain ⟨zp, p0, p1, p2, p3⟩ := HPr.out.at
            clear hc HSc
            go_wp2_with fail
            refine HCt.out.mono ?_
            rintro e w6 ⟨rfl, b6⟩
            have H6 := Lib.hid (HS.out.keep b6)
            clear b6 HS HCt
            go_wp2_with fail
            refine (wk_decay H6.out).mono ?_
            rintro e w7 ⟨rfl, h7, -⟩
            have H7 := Lib.hid h7
            have HPr7 := Lib.hid (HP.out.keep h7.below)
            have hc := wk_count H7.out p
            rw [dec_cnt, HSc2.out] at hc
            have HCt : Hid (Calls Try.prog 15 #[.pointer (some ⟨t, 0, none⟩), .agg #[.int .u64 (u p.a.hi), .int .u64 (u p.a.lo), .bool p.a.v6, .int .i64 p.n]] w7 fun e w' => e = .returned (.int .i64 0) ∧ Below w7.heap.size w7 w') := Lib.hid hc
            clear h7 hc p0 p1 p2 p3 zp H6
            obtain ⟨zp, p0, p1, p2, p3⟩ := HPr7.out.at
            go_wp2_with fail
            refine HCt.out.mono ?_
            rintro e w8 ⟨rfl, b8⟩
            have H8 := Lib.hid (H7.out.keep b8)
            clear b8
            go_wp2
            go_ret
            exact ⟨rfl, HW.out H8.out⟩

end Go.Proofs.Ytpigdjlanabacaa

namespace Go.Proofs.Ytpigdjlanabacaa
open Go.ChangeShapes Go.WideShapes Go.ChangeAt Go.RowKit

set_option maxRecDepth 100000 in
theorem sketchFull_lifted (os : Os) (started : os.Started) (H : Type) (enc : TypeId × Value → H) :
    ReturnsInHanded {} Try.checked os 6 .any (Rows.sketchFullSpec.pre6 enc Try.prog Try.f6 Rows.sketchFullRow.domain false) (Rows.sketchFullSpec.post enc Try.prog Try.f6 false true false false) := by
  refine returnsInHanded_of_change (C := Try.checked) own started (by kernel_rfl) Try.func6
    (ChangeSpec.witness6 (enc := enc) (C := Try.checked) false ⟨#[], #[.int .i64 0, .int .i64 0, .agg #[.int .u64 0, .int .u64 0, .bool false, .int .i64 0]], []⟩ 8 (by kernel_rfl) (by kernel_rfl) (by kernel_rfl) (by kernel_rfl)) ?_
  intro W base args ds gs before hval0 hW hcnd _
  have hval : ∀ (j : Nat) t v, Try.f6.params[j]? = some t → args[j]? = some v → Value.okWide Try.prog W .any base t v := hval0
  have hW' := hW
  obtain ⟨p, q, hA0, hV, rfl, hfz, hnd⟩ := hW
  have hA : DataW.TrodAll enc Try.prog W 0 (fun _ => true) true Try.f6.params.toList args.toList ds p := hA0
  rw [Try.params6] at hA hval
  obtain ⟨v0, vs0, d0, ds0, p0, q0, hargs, rfl, rfl, h0, r0⟩ := trodAll_cons hA
  obtain ⟨v1, vs1, d1, ds1, p1, q1, rfl, rfl, rfl, h1, r1⟩ := trodAll_cons r0
  obtain ⟨v2, vs2, d2, ds2, p2, q2, rfl, rfl, rfl, h2, r2⟩ := trodAll_cons r1
  obtain ⟨rfl, rfl, rfl⟩ := trodAll_nil r2
  obtain rfl : args = #[v0, v1, v2] := by cases args; simp_all
  obtain ⟨rfl, rfl⟩ := trodVars_none hV
  have lt0 : ∀ x ∈ p0, x.block < W.heap.size := by obtain ⟨m, hm⟩ := h0; exact DataW.trod_lt m _ _ _ hm
  have k0 := h0
  obtain ⟨a0, rfl, e0, f0, w0⟩ := open_int Try.underlying3 (hval 0 3 v0 rfl rfl) h0
  have lt1 : ∀ x ∈ p1, x.block < W.heap.size := by obtain ⟨m, hm⟩ := h1; exact DataW.trod_lt m _ _ _ hm
  have k1 := h1
  obtain ⟨a1, rfl, e1, f1, w1⟩ := open_int Try.underlying3 (hval 1 3 v1 rfl rfl) h1
  have lt2 : ∀ x ∈ p2, x.block < W.heap.size := by obtain ⟨m, hm⟩ := h2; exact DataW.trod_lt m _ _ _ hm
  obtain ⟨a2, rfl, w2⟩ := open_pf (hval 2 27 v2 rfl rfl) h2
  clear hA0 hval0
  refine (full11_law a0 a1 a2 W).mono fun e W' ⟨he, bel⟩ => ?_
  subst he
  exact ⟨_, rfl, _, _, _, [], _, [], hW', trodAll_mk1 (shut_bool Try.underlying4 _), (trodAll_cons_mk (Below.trod laidOut (by kernel_rfl) (of_decide_eq_true (by kernel_rfl)) h0 bel lt0) (trodAll_cons_mk (Below.trod laidOut (by kernel_rfl) (of_decide_eq_true (by kernel_rfl)) h1 bel lt1) (trodAll_cons_mk (Below.trod laidOut (by kernel_rfl) (of_decide_eq_true (by kernel_rfl)) h2 bel lt2) trodAll_mk0))), rfl, bel.frame _, fun h => by cases h⟩

theorem sketchFull_holds : Rows.SketchFullSaid :=
  OpenClaim.holds_of_wide 6 Try.f6 rfl rfl rfl rfl rfl rfl rfl ⟨rfl, rfl, rfl, rfl, rfl⟩ rfl rfl rfl rfl rfl (by kernel_rfl) Try.func6 (by kernel_rfl)
    (of_decide_eq_true (by kernel_rfl)) (by unfold Func.isWrapper; first | (rw [if_pos (by decide +kernel)]; kernel_rfl) | (rw [if_neg (by decide +kernel)]; exact ⟨rfl, rfl⟩))
    (fun os started H enc _ => sketchFull_lifted os started H enc)

end Go.Proofs.Ytpigdjlanabacaa
