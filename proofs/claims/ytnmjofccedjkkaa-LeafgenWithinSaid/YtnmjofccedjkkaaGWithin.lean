/-
  LeafgenWithin: for every input the call returns true, and each argument reads afterwards as it read before. No condition.
-/
import Derived.Test.YtnmjofccedjkkaaH1
namespace Go.Proofs.Ytnmjofccedjkkaa
open Go.RowKit Go.Maps
set_option maxRecDepth 100000


set_option maxHeartbeats 8000000 in
theorem leafwithin_law (A : Option Addr) (cap : Nat) (ls : List Pr) (x : Pr) (side : Int) (w : World) (hr : RdQ w A ls) :
    Calls Try.prog 6 #[.slice A ls.length cap, .agg #[.int .u64 (u x.p.a.hi), .int .u64 (u x.p.a.lo), .bool x.p.a.v6, .int .i64 x.p.n, .int .i64 x.v], .int .i64 side] w fun e w' => e = .returned (.bool true) ∧ Below w.heap.size w w' := by
  have HRD := Lib.hid hr
  clear hr
  by_cases hlen : 60 < ls.length
  · have t0 : decide ((60 : Int) < (ls.length : Int)) = true := by simp; omega
    go_enter Try.func6, Try.ntmps6
    go_wp2_with fail
    refine (awake7_any _).mono ?_
    rintro e w1 ⟨rfl, hw1⟩
    have b1 : Below w.heap.size w w1 := below_of (by go_grown) hw1
    go_wp2
    go_ret
    exact ⟨rfl, b1⟩
  · have t0 : decide ((60 : Int) < (ls.length : Int)) = false := by simp; omega
    go_enter Try.func6, Try.ntmps6
    go_wp2_with fail
    refine (awake7_any _).mono ?_
    rintro e w1 ⟨rfl, hw1⟩
    have b1 : Below w.heap.size w w1 := below_of (by go_grown) hw1
    have Hx1 : Hid (QBox w1 (w.heap.size) x) := Lib.hid (QBox.kept (by refine ⟨?_, ?_, ?_, ?_, ?_, ?_⟩ <;> first | (go_simp; done) | (go_simp <;> rfl) | go_size) hw1)
    have v1 := Hx1.out.2.2.2.2.2
    clear hw1
    go_wp2_with fail
    refine (filled_any A cap ls _ (HRD.out.keep b1 (Nat.le_refl _)) (by omega)).mono ?_
    rintro e w3 ⟨r, S, rfl, hR3, hm3, hS3, hb3⟩
    have Hx3 := Lib.hid (Hx1.out.kept hb3)
    have b3 := b1.trans (hb3.mono b1.size)
    have z1 := b1.size
    have z3 := b3.size
    have hs3 := hR3.srt
    generalize (fillK ls ls.length).1 = L at hR3 hs3
    generalize (fillK ls ls.length).2 = M at hR3 hm3
    have HR3 := Lib.hid hR3
    have HS3 := Lib.hid hS3
    have HSR := Lib.hid hs3
    clear hR3 hS3 hs3 hb3 HRD b1 t0 Hx1
    have cg := fun W (H : RibS W r S 200 200 L M) => good_any H x
    have gw := @good_within L x
    have gp := fun q (hc : pcov x.p q = true) => @good_part L x.p q x.v
    obtain ⟨gd, hg⟩ : ∃ gd, goodL L x = gd := ⟨_, rfl⟩
    rw [hg] at cg
    have CG := Lib.hid cg
    clear cg
    cases gd
    · clear gw gp hg
      obtain ⟨x0, x1, x2, x3, x4, xz⟩ := id Hx3.out
      go_wp2_with fail
      refine (CG.out _ HR3.out).mono ?_
      rintro e w4 ⟨rfl, hw⟩
      have ee := hw
      have Hx4 := Lib.hid (Hx3.out.kept ee)
      have HR4 := Lib.hid (HR3.out.keep ee)
      have b4 := b3.trans (ee.mono b3.size)
      have z4 := b4.size
      have y4 := ee.size
      clear hw ee HR3 Hx3 x0 x1 x2 x3 x4 xz
      go_wp2
      go_ret
      exact ⟨rfl, b4⟩
    · obtain ⟨hs, ⟨Y, yv⟩, hy, hc, hv⟩ := gw hg
      have hv' : yv = x.v := hv
      subst hv'
      have cl := fun W (H : RibS W r S 200 200 L M) => leaf_any H x.p.a
      unfold OptPost at cl
      rw [hy] at cl
      simp only [Option.getD_some, Option.isSome_some] at cl
      have cc := pcov_any Y x.p
      have hc' : pcov Y x.p = true := hc
      rw [hc'] at cc
      have cs := psane_any x.p
      rw [hs] at cs
      have ch := pchild_any x.p side
      have gk : (pchild x.p side).2 = true → goodL L ⟨(pchild x.p side).1, x.v⟩ = true := fun h => by
        obtain ⟨c1, c2, c3⟩ := child_ok side h
        exact gp _ (cov_child c1 c2 side) hg (cov_child c1 c2 side)
      have cd := fun W (H : RibS W r S 200 200 L M) => good_any H ⟨(pchild x.p side).1, x.v⟩
      obtain ⟨C, hC⟩ : ∃ C, (pchild x.p side).1 = C := ⟨_, rfl⟩
      obtain ⟨has, hh⟩ : ∃ has, (pchild x.p side).2 = has := ⟨_, rfl⟩
      rw [hC, hh] at ch gk
      rw [hC] at cd
      have CL := Lib.hid cl
      have CC := Lib.hid cc
      have CS := Lib.hid cs
      have CH := Lib.hid ch
      have CD := Lib.hid cd
      have GK := Lib.hid gk
      clear gw gp hg hs hy hc hc' hv cl cc cs ch cd gk hC hh
      obtain ⟨x0, x1, x2, x3, x4, xz⟩ := id Hx3.out
      go_wp2_with fail
      refine (CG.out _ HR3.out).mono ?_
      rintro e w4 ⟨rfl, hw⟩
      have ee := hw
      have Hx4 := Lib.hid (Hx3.out.kept ee)
      have HR4 := Lib.hid (HR3.out.keep ee)
      have b4 := b3.trans (ee.mono b3.size)
      have z4 := b4.size
      have y4 := ee.size
      clear hw ee HR3 Hx3 x0 x1 x2 x3 x4 xz
      obtain ⟨x0, x1, x2, x3, x4, xz⟩ := id Hx4.out
      go_wp2_with fail
      refine (CL.out _ HR4.out).mono ?_
      rintro e w5 ⟨rfl, hw⟩
      have ee := hw
      have Hx5 := Lib.hid (Hx4.out.kept ee)
      have HR5 := Lib.hid (HR4.out.keep ee)
      have b5 := b4.trans (ee.mono b4.size)
      have z5 := b5.size
      have y5 := ee.size
      clear hw ee HR4 Hx4 x0 x1 x2 x3 x4 xz
      obtain ⟨x0, x1, x2, x3, x4, xz⟩ := id Hx5.out
      have xn0 : ¬ w.heap.size = w5.heap.size := by omega
      go_wp2_with fail
      refine (CH.out _).mono ?_
      rintro e w6 ⟨rfl, hw⟩
      have ee : Below w5.heap.size w5 w6 := below_of (by go_grown) hw
      have Hy6 : Hid (QBox w6 (w5.heap.size) ⟨Y, x.v⟩) := Lib.hid (QBox.kept (by refine ⟨?_, ?_, ?_, ?_, ?_, ?_⟩ <;> first | (go_simp; done) | (go_simp <;> rfl) | go_size) hw)
      have Hx6 := Lib.hid (Hx5.out.kept ee)
      have HR6 := Lib.hid (HR5.out.keep ee)
      have b6 := b5.trans (ee.mono b5.size)
      have z6 := b6.size
      have y6 := ee.size
      clear hw ee HR5 Hx5 x0 x1 x2 x3 x4 xz xn0
      obtain ⟨y0, y1, y2, y3, y4, yz⟩ := id Hy6.out
      have yn0 : ¬ w5.heap.size = w6.heap.size := by omega
      obtain ⟨x0, x1, x2, x3, x4, xz⟩ := id Hx6.out
      have xn0 : ¬ w.heap.size = w6.heap.size := by omega
      go_wp2_with fail
      refine (CC.out _).mono ?_
      rintro e w7 ⟨rfl, hw⟩
      have ee : Below w6.heap.size w6 w7 := below_of (by go_grown) hw
      have Hc7 : Hid (PBox w7 (w6.heap.size) C) := Lib.hid (PBox.keep (by exact ⟨by go_simp <;> rfl, by go_simp <;> rfl, by go_simp <;> rfl, by go_simp <;> rfl, by go_simp <;> rfl, by go_simp <;> rfl, by go_simp <;> rfl, by go_simp <;> rfl, by go_size⟩) hw)
      have Hx7 := Lib.hid (Hx6.out.kept ee)
      have Hy7 := Lib.hid (Hy6.out.kept ee)
      have HR7 := Lib.hid (HR6.out.keep ee)
      have b7 := b6.trans (ee.mono b6.size)
      have z7 := b7.size
      have y7 := ee.size
      clear hw ee HR6 Hx6 Hy6 y0 y1 y2 y3 y4 yz yn0 x0 x1 x2 x3 x4 xz xn0
      obtain ⟨y0, y1, y2, y3, y4, yz⟩ := id Hy7.out
      obtain ⟨x0, x1, x2, x3, x4, xz⟩ := id Hx7.out
      go_wp2_with fail
      refine (CS.out _).mono ?_
      rintro e w8 ⟨rfl, hw⟩
      have ee := hw
      have Hx8 := Lib.hid (Hx7.out.kept ee)
      have Hy8 := Lib.hid (Hy7.out.kept ee)
      have Hc8 := Lib.hid (Hc7.out.keep ee)
      have HR8 := Lib.hid (HR7.out.keep ee)
      have b8 := b7.trans (ee.mono b7.size)
      have z8 := b8.size
      have y8 := ee.size
      clear hw ee HR7 Hx7 Hy7 Hc7 y0 y1 y2 y3 y4 yz x0 x1 x2 x3 x4 xz
      cases has
      · go_wp2
        go_ret
        exact ⟨rfl, b8⟩
      · have cd := CD.out
        rw [GK.out rfl] at cd
        have CE := Lib.hid cd
        clear cd
        obtain ⟨ca, cb, cc, cg, -, -, -, -, cz⟩ := id Hc8.out
        obtain ⟨x0, x1, x2, x3, x4, xz⟩ := id Hx8.out
        go_wp2_with fail
        refine (CE.out _ HR8.out).mono ?_
        rintro e w9 ⟨rfl, hw⟩
        have ee := hw
        have Hx9 := Lib.hid (Hx8.out.kept ee)
        have Hy9 := Lib.hid (Hy8.out.kept ee)
        have Hc9 := Lib.hid (Hc8.out.keep ee)
        have HR9 := Lib.hid (HR8.out.keep ee)
        have b9 := b8.trans (ee.mono b8.size)
        have z9 := b9.size
        have y9 := ee.size
        clear hw ee HR8 Hx8 Hy8 Hc8 ca cb cc cg cz x0 x1 x2 x3 x4 xz
        go_wp2
        go_ret
        exact ⟨rfl, b9⟩

end Go.Proofs.Ytnmjofccedjkkaa

namespace Go.Proofs.Ytnmjofccedjkkaa
open Go.ChangeShapes Go.WideShapes Go.ChangeAt Go.RowKit

set_option maxRecDepth 100000 in
theorem leafgenWithin_lifted (os : Os) (started : os.Started) (H : Type) (enc : TypeId × Value → H) :
    ReturnsInHanded {} Try.checked os 6 .any (Rows.leafgenWithinSpec.pre6 enc Try.prog Try.f6 Rows.leafgenWithinRow.domain false) (Rows.leafgenWithinSpec.post enc Try.prog Try.f6 false true false false) := by
  refine returnsInHanded_of_change (C := Try.checked) own started (by kernel_rfl) Try.func6
    (ChangeSpec.witness6 (enc := enc) (C := Try.checked) false ⟨#[], #[.slice none 0 0, .agg #[.int .u64 0, .int .u64 0, .bool false, .int .i64 0, .int .i64 0], .int .i64 0], []⟩ 8 (by kernel_rfl) (by kernel_rfl) (by kernel_rfl) (by kernel_rfl)) ?_
  intro W base args ds gs before hval0 hW hcnd _
  have hval : ∀ (j : Nat) t v, Try.f6.params[j]? = some t → args[j]? = some v → Value.okWide Try.prog W .any base t v := hval0
  have hW' := hW
  obtain ⟨p, q, hA0, hV, rfl, hfz, hnd⟩ := hW
  have hA : DataW.TrodAll enc Try.prog W 0 (fun _ => true) true Try.f6.params.toList args.toList ds p := hA0
  rw [Try.params6] at hA hval
  obtain ⟨v0, vs0, d0, ds0, p0, q0, hargs, rfl, rfl, h0, r0⟩ := trodAll_cons hA
  obtain ⟨v1, vs1, d1, ds1, p1, q1, rfl, rfl, rfl, h1, r1⟩ := trodAll_cons r0
  obtain ⟨v2, vs2, d2, ds2, p2, q2, rfl, rfl, rfl, h2, r2⟩ := trodAll_cons r1
  obtain ⟨rfl, rfl, rfl⟩ := trodAll_nil r2
  obtain rfl : args = #[v0, v1, v2] := by cases args; simp_all
  obtain ⟨rfl, rfl⟩ := trodVars_none hV
  have lt0 : ∀ x ∈ p0, x.block < W.heap.size := by obtain ⟨m, hm⟩ := h0; exact DataW.trod_lt m _ _ _ hm
  obtain ⟨A0, cap0, l0, rfl, w0⟩ := open_prs (hval 0 22 v0 rfl rfl) h0 (fun _ => rfl)
  have lt1 : ∀ x ∈ p1, x.block < W.heap.size := by obtain ⟨m, hm⟩ := h1; exact DataW.trod_lt m _ _ _ hm
  obtain ⟨a1, rfl⟩ := open_pr7 (hval 1 29 v1 rfl rfl) h1
  have lt2 : ∀ x ∈ p2, x.block < W.heap.size := by obtain ⟨m, hm⟩ := h2; exact DataW.trod_lt m _ _ _ hm
  have k2 := h2
  obtain ⟨a2, rfl, e2, f2, w2⟩ := open_int Try.underlying3 (hval 2 3 v2 rfl rfl) h2
  clear hA0 hval0
  refine (leafwithin_law A0 cap0 l0 a1 a2 W w0).mono fun e W' ⟨he, bel⟩ => ?_
  subst he
  exact ⟨_, rfl, _, _, _, [], _, [], hW', trodAll_mk1 (shut_bool Try.underlying4 _), (trodAll_cons_mk (Below.trod laidOut (by kernel_rfl) (of_decide_eq_true (by kernel_rfl)) h0 bel lt0) (trodAll_cons_mk (Below.trod laidOut (by kernel_rfl) (of_decide_eq_true (by kernel_rfl)) h1 bel lt1) (trodAll_cons_mk (Below.trod laidOut (by kernel_rfl) (of_decide_eq_true (by kernel_rfl)) h2 bel lt2) trodAll_mk0))), rfl, bel.frame _, fun h => by cases h⟩

theorem leafgenWithin_holds : Rows.LeafgenWithinSaid :=
  OpenClaim.holds_of_wide 6 Try.f6 rfl rfl rfl rfl rfl rfl rfl ⟨rfl, rfl, rfl, rfl, rfl⟩ rfl rfl rfl rfl rfl (by kernel_rfl) Try.func6 (by kernel_rfl)
    (of_decide_eq_true (by kernel_rfl)) (by unfold Func.isWrapper; first | (rw [if_pos (by decide +kernel)]; kernel_rfl) | (rw [if_neg (by decide +kernel)]; exact ⟨rfl, rfl⟩))
    (fun os started H enc _ => leafgenWithin_lifted os started H enc)

end Go.Proofs.Ytnmjofccedjkkaa
