/-
  LeafgenIs: for every input the call returns true, and each argument reads afterwards as it read before. No condition.
-/
import Derived.Test.YtnmjofccedjkkaaH1
import Derived.Test.YtnmjofccedjkkaaK3
import Derived.Test.YtnmjofccedjkkaaK2
namespace Go.Proofs.Ytnmjofccedjkkaa
open Go.RowKit Go.Maps
set_option maxRecDepth 100000


set_option maxHeartbeats 8000000 in
theorem leafis_law (A : Option Addr) (cap : Nat) (ls : List Pr) (a : Ad) (x : Pr) (least : Int) (w : World) (hr : RdQ w A ls) :
    Calls Try.prog 3 #[.slice A ls.length cap, .agg #[.int .u64 (u a.hi), .int .u64 (u a.lo), .bool a.v6], .agg #[.int .u64 (u x.p.a.hi), .int .u64 (u x.p.a.lo), .bool x.p.a.v6, .int .i64 x.p.n, .int .i64 x.v], .int .i64 least] w fun e w' => e = .returned (.bool true) ∧ Below w.heap.size w w' := by
  have HRD := Lib.hid hr
  have HRE := Lib.hid hr
  clear hr
  by_cases hlen : 60 < ls.length
  · have t0 : decide ((60 : Int) < (ls.length : Int)) = true := by simp; omega
    go_enter Try.func3, Try.ntmps3
    go_wp2_with fail
    refine (awake7_any _).mono ?_
    rintro e w1 ⟨rfl, hw1⟩
    have b1 : Below w.heap.size w w1 := below_of (by go_grown) hw1
    go_wp2
    go_ret
    exact ⟨rfl, b1⟩
  · have t0 : decide ((60 : Int) < (ls.length : Int)) = false := by simp; omega
    go_enter Try.func3, Try.ntmps3
    go_wp2_with fail
    refine (awake7_any _).mono ?_
    rintro e w1 ⟨rfl, hw1⟩
    have b1 : Below w.heap.size w w1 := below_of (by go_grown) hw1
    have Hp1 : Hid (ABox w1 (w.heap.size) a) := Lib.hid (ABox.keep ⟨by go_simp <;> rfl, by go_simp <;> rfl, by go_simp <;> rfl, by go_size⟩ hw1)
    have Hx1 : Hid (QBox w1 (w.heap.size + 1) x) := Lib.hid (QBox.kept (by refine ⟨?_, ?_, ?_, ?_, ?_, ?_⟩ <;> first | (go_simp; done) | (go_simp <;> rfl) | go_size) hw1)
    have v1 := Hx1.out.2.2.2.2.2
    clear hw1
    go_wp2_with fail
    refine (filled_any A cap ls _ (HRD.out.keep b1 (Nat.le_refl _)) (by omega)).mono ?_
    rintro e w3 ⟨r, S, rfl, hR3, hm3, hS3, hb3⟩
    have Hp3 := Lib.hid (Hp1.out.keep hb3)
    have Hx3 := Lib.hid (Hx1.out.kept hb3)
    have b3 := b1.trans (hb3.mono b1.size)
    have z1 := b1.size
    have z3 := b3.size
    have hs3 := hR3.srt
    have cpl := fun W (hr : RdQ W A ls) => plain_any A cap ls W hr (by omega)
    unfold PlainPost at cpl
    obtain ⟨L, hL⟩ : ∃ L, (fillK ls ls.length).1 = L := ⟨_, rfl⟩
    rw [hL] at hR3 hs3 cpl
    have CPL := Lib.hid cpl
    clear hL cpl
    generalize (fillK ls ls.length).2 = M at hR3 hm3
    have HR3 := Lib.hid hR3
    have HS3 := Lib.hid hS3
    have HSR := Lib.hid hs3
    clear hR3 hS3 hs3 hb3 HRD b1 t0 Hp1 Hx1
    have hln : L.length ≤ 1000000 := by obtain ⟨_, _, _, _, _, hI, _⟩ := HR3.out; have := hI.few; omega
    go_wp2_with fail
    refine (CPL.out _ (HRE.out.keep b3 (Nat.le_refl _))).mono ?_
    rintro e w4 ⟨A2, c2, m2, rfl, hrq, hw⟩
    have c4 := Below.refl w4.heap.size w4
    have HRQ := Lib.hid hrq
    clear hrq CPL HRE
    have ee := hw
    have Hp4 := Lib.hid (Hp3.out.keep ee)
    have Hx4 := Lib.hid (Hx3.out.kept ee)
    have HR4 := Lib.hid (HR3.out.keep ee)
    have b4 := b3.trans (ee.mono b3.size)
    have z4 := b4.size
    have y4 := ee.size
    clear hw ee HR3 Hp3 Hx3
    have cl := fun W (H : RibS W r S 200 200 L M) => leaf_any H a
    have cx := fun W (H : RibS W r S 200 200 L M) => exact_any H a
    have cb := fun W (H : RibS W r S 200 200 L M) => block_any H a
    have cw := fun W (H : RibS W r S 200 200 L M) => widest_any H a least
    have cg := fun W (H : RibS W r S 200 200 L M) => good_any H x
    have kl := fun W (hr : RdQ W A2 L) => kleaf_any (c0 := c2) hr hln m2 200 200 a
    have kx := fun W (hr : RdQ W A2 L) => kexact_any (c0 := c2) hr hln m2 200 200 a
    have kb := fun W (hr : RdQ W A2 L) => kblock_any (c0 := c2) hr hln m2 200 200 a
    have kw := fun W (hr : RdQ W A2 L) => kwidest_any (c0 := c2) hr hln m2 200 200 a least
    have kg := fun W (hr : RdQ W A2 L) => kgood_any (c0 := c2) hr hln m2 200 200 x
    unfold OptPost at cl cx kl kx
    obtain ⟨Y, hY⟩ : ∃ Y, (leafO L a).getD nilPr = Y := ⟨_, rfl⟩
    obtain ⟨oy, hoy⟩ : ∃ oy, (leafO L a).isSome = oy := ⟨_, rfl⟩
    obtain ⟨D, hD⟩ : ∃ D, (exactO L a).getD nilPr = D := ⟨_, rfl⟩
    obtain ⟨od, hod⟩ : ∃ od, (exactO L a).isSome = od := ⟨_, rfl⟩
    obtain ⟨P, hP⟩ : ∃ P, wideP L a 0 = P := ⟨_, rfl⟩
    obtain ⟨Q, hQ⟩ : ∃ Q, wideP L a least = Q := ⟨_, rfl⟩
    obtain ⟨gd, hgd⟩ : ∃ gd, goodL L x = gd := ⟨_, rfl⟩
    rw [hY, hoy] at cl kl
    rw [hD, hod] at cx kx
    rw [hP] at cb kb
    rw [hQ] at cw kw
    rw [hgd] at cg kg
    have CL := Lib.hid cl
    have CX := Lib.hid cx
    have CB := Lib.hid cb
    have CW := Lib.hid cw
    have CG := Lib.hid cg
    have KL := Lib.hid kl
    have KX := Lib.hid kx
    have KB := Lib.hid kb
    have KW := Lib.hid kw
    have KG := Lib.hid kg
    clear cl cx cb cw cg kl kx kb kw kg hY hoy hD hod hP hQ hgd hln
    obtain ⟨pa, pb, pc, pz⟩ := id Hp4.out
    have pn0 : ¬ w.heap.size = w4.heap.size := by omega
    go_wp2_with fail
    refine (CL.out _ (HR4.out.keep (by go_grown))).mono ?_
    rintro e w5 ⟨rfl, hw⟩
    have ee : Below w4.heap.size w4 w5 := below_of (by go_grown) hw
    have Hs5 : Hid (VBox w5 (w4.heap.size) A2 L.length c2 m2 200 200) := Lib.hid (VBox.keep (by refine ⟨?_, ?_, ?_, ?_, ?_⟩ <;> first | (go_simp; done) | (go_simp <;> rfl) | go_size) hw)
    have Hp5 := Lib.hid (Hp4.out.keep ee)
    have Hx5 := Lib.hid (Hx4.out.kept ee)
    have HR5 := Lib.hid (HR4.out.keep ee)
    have b5 := b4.trans (ee.mono b4.size)
    have z5 := b5.size
    have y5 := ee.size
    have c5 := c4.trans (ee.mono c4.size)
    clear hw ee HR4 Hp4 Hx4 pa pb pc pz pn0
    obtain ⟨s0, s1, s2, s3, sz⟩ := id Hs5.out
    have sn0 : ¬ w4.heap.size = w5.heap.size := by omega
    obtain ⟨pa, pb, pc, pz⟩ := id Hp5.out
    have pn0 : ¬ w.heap.size = w5.heap.size := by omega
    go_wp2_with fail
    refine (KL.out _ (HRQ.out.keep (B := w4.heap.size) (by go_grown) (Nat.le_refl _))).mono ?_
    rintro e w6 ⟨rfl, hw⟩
    have ee : Below w5.heap.size w5 w6 := below_of (by go_grown) hw
    have Hb6 : Hid (QBox w6 (w5.heap.size) Y) := Lib.hid (QBox.kept (by refine ⟨?_, ?_, ?_, ?_, ?_, ?_⟩ <;> first | (go_simp; done) | (go_simp <;> rfl) | go_size) hw)
    have Hp6 := Lib.hid (Hp5.out.keep ee)
    have Hx6 := Lib.hid (Hx5.out.kept ee)
    have Hs6 := Lib.hid (Hs5.out.keep ee)
    have HR6 := Lib.hid (HR5.out.keep ee)
    have b6 := b5.trans (ee.mono b5.size)
    have z6 := b6.size
    have y6 := ee.size
    have c6 := c5.trans (ee.mono c5.size)
    clear hw ee HR5 Hp5 Hx5 Hs5 s0 s1 s2 s3 sz sn0 pa pb pc pz pn0
    obtain ⟨pa, pb, pc, pz⟩ := id Hp6.out
    have pn0 : ¬ w.heap.size = w6.heap.size := by omega
    go_wp2_with fail
    refine (CX.out _ (HR6.out.keep (by go_grown))).mono ?_
    rintro e w7 ⟨rfl, hw⟩
    have ee : Below w6.heap.size w6 w7 := below_of (by go_grown) hw
    have Hc7 : Hid (QBox w7 (w6.heap.size) Y) := Lib.hid (QBox.kept (by refine ⟨?_, ?_, ?_, ?_, ?_, ?_⟩ <;> first | (go_simp; done) | (go_simp <;> rfl) | go_size) hw)
    have Hp7 := Lib.hid (Hp6.out.keep ee)
    have Hx7 := Lib.hid (Hx6.out.kept ee)
    have Hs7 := Lib.hid (Hs6.out.keep ee)
    have Hb7 := Lib.hid (Hb6.out.kept ee)
    have HR7 := Lib.hid (HR6.out.keep ee)
    have b7 := b6.trans (ee.mono b6.size)
    have z7 := b7.size
    have y7 := ee.size
    have c7 := c6.trans (ee.mono c6.size)
    clear hw ee HR6 Hp6 Hx6 Hs6 Hb6 pa pb pc pz pn0
    obtain ⟨s0, s1, s2, s3, sz⟩ := id Hs7.out
    have sn0 : ¬ w4.heap.size = w7.heap.size := by omega
    obtain ⟨pa, pb, pc, pz⟩ := id Hp7.out
    have pn0 : ¬ w.heap.size = w7.heap.size := by omega
    go_wp2_with fail
    refine (KX.out _ (HRQ.out.keep (B := w4.heap.size) (by go_grown) (Nat.le_refl _))).mono ?_
    rintro e w8 ⟨rfl, hw⟩
    have ee : Below w7.heap.size w7 w8 := below_of (by go_grown) hw
    have Hd8 : Hid (QBox w8 (w7.heap.size) D) := Lib.hid (QBox.kept (by refine ⟨?_, ?_, ?_, ?_, ?_, ?_⟩ <;> first | (go_simp; done) | (go_simp <;> rfl) | go_size) hw)
    have Hp8 := Lib.hid (Hp7.out.keep ee)
    have Hx8 := Lib.hid (Hx7.out.kept ee)
    have Hs8 := Lib.hid (Hs7.out.keep ee)
    have Hb8 := Lib.hid (Hb7.out.kept ee)
    have Hc8 := Lib.hid (Hc7.out.kept ee)
    have HR8 := Lib.hid (HR7.out.keep ee)
    have b8 := b7.trans (ee.mono b7.size)
    have z8 := b8.size
    have y8 := ee.size
    have c8 := c7.trans (ee.mono c7.size)
    clear hw ee HR7 Hp7 Hx7 Hs7 Hb7 Hc7 s0 s1 s2 s3 sz sn0 pa pb pc pz pn0
    go_wp2_with fail
    generalize hV : World.alloc _ _ = w9
    have ee : Below w8.heap.size w8 w9 := by subst hV; go_grown
    have Hf9 : Hid (QBox w9 (w8.heap.size) D) := Lib.hid (by subst hV; exact (by refine ⟨?_, ?_, ?_, ?_, ?_, ?_⟩ <;> first | (go_simp; done) | (go_simp <;> rfl) | go_size))
    have Hp9 := Lib.hid (Hp8.out.keep ee)
    have Hx9 := Lib.hid (Hx8.out.kept ee)
    have Hs9 := Lib.hid (Hs8.out.keep ee)
    have Hb9 := Lib.hid (Hb8.out.kept ee)
    have Hc9 := Lib.hid (Hc8.out.kept ee)
    have Hd9 := Lib.hid (Hd8.out.kept ee)
    have HR9 := Lib.hid (HR8.out.keep ee)
    have b9 := b8.trans (ee.mono b8.size)
    have z9 := b9.size
    have y9 := ee.size
    have c9 := c8.trans (ee.mono c8.size)
    clear hV ee HR8 Hp8 Hx8 Hs8 Hb8 Hc8 Hd8
    have HQ9 := Lib.hid (HRQ.out.keep c9 (Nat.le_refl _))
    obtain ⟨b0, b1, b2, b3, b4, bz⟩ := id Hb9.out
    obtain ⟨c0, c1, c2, c3, c4, cz⟩ := id Hc9.out
    obtain ⟨d0, d1, d2, d3, d4, dz⟩ := id Hd9.out
    obtain ⟨f0, f1, f2, f3, f4, fz⟩ := id Hf9.out
    obtain ⟨s0, s1, s2, s3, sz⟩ := id Hs9.out
    obtain ⟨pa, pb, pc, pz⟩ := id Hp9.out
    obtain ⟨x0, x1, x2, x3, x4, xz⟩ := id Hx9.out
    have Lb0 := fun x : Later w9.heap.size w9 => (x.cell bz).trans b0
    have Lb1 := fun x : Later w9.heap.size w9 => (x.cell bz).trans b1
    have Lb2 := fun x : Later w9.heap.size w9 => (x.cell bz).trans b2
    have Lb3 := fun x : Later w9.heap.size w9 => (x.cell bz).trans b3
    have Lb4 := fun x : Later w9.heap.size w9 => (x.cell bz).trans b4
    have Lc0 := fun x : Later w9.heap.size w9 => (x.cell cz).trans c0
    have Lc1 := fun x : Later w9.heap.size w9 => (x.cell cz).trans c1
    have Lc2 := fun x : Later w9.heap.size w9 => (x.cell cz).trans c2
    have Lc3 := fun x : Later w9.heap.size w9 => (x.cell cz).trans c3
    have Lc4 := fun x : Later w9.heap.size w9 => (x.cell cz).trans c4
    have Ld0 := fun x : Later w9.heap.size w9 => (x.cell dz).trans d0
    have Ld1 := fun x : Later w9.heap.size w9 => (x.cell dz).trans d1
    have Ld2 := fun x : Later w9.heap.size w9 => (x.cell dz).trans d2
    have Ld3 := fun x : Later w9.heap.size w9 => (x.cell dz).trans d3
    have Ld4 := fun x : Later w9.heap.size w9 => (x.cell dz).trans d4
    have Lf0 := fun x : Later w9.heap.size w9 => (x.cell fz).trans f0
    have Lf1 := fun x : Later w9.heap.size w9 => (x.cell fz).trans f1
    have Lf2 := fun x : Later w9.heap.size w9 => (x.cell fz).trans f2
    have Lf3 := fun x : Later w9.heap.size w9 => (x.cell fz).trans f3
    have Lf4 := fun x : Later w9.heap.size w9 => (x.cell fz).trans f4
    have Ls0 := fun x : Later w9.heap.size w9 => (x.cell sz).trans s0
    have Ls1 := fun x : Later w9.heap.size w9 => (x.cell sz).trans s1
    have Ls2 := fun x : Later w9.heap.size w9 => (x.cell sz).trans s2
    have Ls3 := fun x : Later w9.heap.size w9 => (x.cell sz).trans s3
    have Lpa := fun x : Later w9.heap.size w9 => (x.cell pz).trans pa
    have Lpb := fun x : Later w9.heap.size w9 => (x.cell pz).trans pb
    have Lpc := fun x : Later w9.heap.size w9 => (x.cell pz).trans pc
    have Lx0 := fun x : Later w9.heap.size w9 => (x.cell xz).trans x0
    have Lx1 := fun x : Later w9.heap.size w9 => (x.cell xz).trans x1
    have Lx2 := fun x : Later w9.heap.size w9 => (x.cell xz).trans x2
    have Lx3 := fun x : Later w9.heap.size w9 => (x.cell xz).trans x3
    have Lx4 := fun x : Later w9.heap.size w9 => (x.cell xz).trans x4
    refine region_later w9.heap.size (by kernel_rfl) (by kernel_rfl) ?_
    repeat (go_big_quiet_step (first | (go_at_call 18; exact later_of (Nat.le_refl _) (CB.out _ (HR9.out.keep (Later.below _)))) | (go_at_call 19; exact later_of (Nat.le_refl _) (KB.out _ (HQ9.out.keep (Later.below _) (Nat.le_refl _)))) | (go_at_call 20; exact later_of (Nat.le_refl _) (CW.out _ (HR9.out.keep (Later.below _)))) | (go_at_call 21; exact later_of (Nat.le_refl _) (KW.out _ (HQ9.out.keep (Later.below _) (Nat.le_refl _)))) | (go_at_call 22; exact later_of (Nat.le_refl _) (CG.out _ (HR9.out.keep (Later.below _)))) | (go_at_call 23; exact later_of (Nat.le_refl _) (KG.out _ (HQ9.out.keep (Later.below _) (Nat.le_refl _))))))
    refine wpQuiet_nil ?_
    intro x
    have ee := x.below
    generalize x.at = w10 at ee ⊢
    clear x Lb0 Lb1 Lb2 Lb3 Lb4 Lc0 Lc1 Lc2 Lc3 Lc4 Ld0 Ld1 Ld2 Ld3 Ld4 Lf0 Lf1 Lf2 Lf3 Lf4 Ls0 Ls1 Ls2 Ls3 Lpa Lpb Lpc Lx0 Lx1 Lx2 Lx3 Lx4
    have Hp10 := Lib.hid (Hp9.out.keep ee)
    have Hx10 := Lib.hid (Hx9.out.kept ee)
    have Hs10 := Lib.hid (Hs9.out.keep ee)
    have Hb10 := Lib.hid (Hb9.out.kept ee)
    have Hc10 := Lib.hid (Hc9.out.kept ee)
    have Hd10 := Lib.hid (Hd9.out.kept ee)
    have Hf10 := Lib.hid (Hf9.out.kept ee)
    have HR10 := Lib.hid (HR9.out.keep ee)
    have b10 := b9.trans (ee.mono b9.size)
    have z10 := b10.size
    have y10 := ee.size
    have c10 := c9.trans (ee.mono c9.size)
    clear ee HR9 Hp9 Hx9 Hs9 Hb9 Hc9 Hd9 Hf9 b0 b1 b2 b3 b4 bz c0 c1 c2 c3 c4 cz d0 d1 d2 d3 d4 dz f0 f1 f2 f3 f4 fz s0 s1 s2 s3 sz pa pb pc pz x0 x1 x2 x3 x4 xz
    go_wp2
    go_ret
    exact ⟨rfl, b10⟩

end Go.Proofs.Ytnmjofccedjkkaa

namespace Go.Proofs.Ytnmjofccedjkkaa
open Go.ChangeShapes Go.WideShapes Go.ChangeAt Go.RowKit

set_option maxRecDepth 100000 in
theorem leafgenIs_lifted (os : Os) (started : os.Started) (H : Type) (enc : TypeId × Value → H) :
    ReturnsInHanded {} Try.checked os 3 .any (Rows.leafgenIsSpec.pre6 enc Try.prog Try.f3 Rows.leafgenIsRow.domain false) (Rows.leafgenIsSpec.post enc Try.prog Try.f3 false true false false) := by
  refine returnsInHanded_of_change (C := Try.checked) own started (by kernel_rfl) Try.func3
    (ChangeSpec.witness6 (enc := enc) (C := Try.checked) false ⟨#[], #[.slice none 0 0, .agg #[.int .u64 0, .int .u64 0, .bool false], .agg #[.int .u64 0, .int .u64 0, .bool false, .int .i64 0, .int .i64 0], .int .i64 0], []⟩ 8 (by kernel_rfl) (by kernel_rfl) (by kernel_rfl) (by kernel_rfl)) ?_
  intro W base args ds gs before hval0 hW hcnd _
  have hval : ∀ (j : Nat) t v, Try.f3.params[j]? = some t → args[j]? = some v → Value.okWide Try.prog W .any base t v := hval0
  have hW' := hW
  obtain ⟨p, q, hA0, hV, rfl, hfz, hnd⟩ := hW
  have hA : DataW.TrodAll enc Try.prog W 0 (fun _ => true) true Try.f3.params.toList args.toList ds p := hA0
  rw [Try.params3] at hA hval
  obtain ⟨v0, vs0, d0, ds0, p0, q0, hargs, rfl, rfl, h0, r0⟩ := trodAll_cons hA
  obtain ⟨v1, vs1, d1, ds1, p1, q1, rfl, rfl, rfl, h1, r1⟩ := trodAll_cons r0
  obtain ⟨v2, vs2, d2, ds2, p2, q2, rfl, rfl, rfl, h2, r2⟩ := trodAll_cons r1
  obtain ⟨v3, vs3, d3, ds3, p3, q3, rfl, rfl, rfl, h3, r3⟩ := trodAll_cons r2
  obtain ⟨rfl, rfl, rfl⟩ := trodAll_nil r3
  obtain rfl : args = #[v0, v1, v2, v3] := by cases args; simp_all
  obtain ⟨rfl, rfl⟩ := trodVars_none hV
  have lt0 : ∀ x ∈ p0, x.block < W.heap.size := by obtain ⟨m, hm⟩ := h0; exact DataW.trod_lt m _ _ _ hm
  obtain ⟨A0, cap0, l0, rfl, w0⟩ := open_prs (hval 0 22 v0 rfl rfl) h0 (fun _ => rfl)
  have lt1 : ∀ x ∈ p1, x.block < W.heap.size := by obtain ⟨m, hm⟩ := h1; exact DataW.trod_lt m _ _ _ hm
  obtain ⟨a1, rfl⟩ := open_ad (hval 1 25 v1 rfl rfl) h1
  have lt2 : ∀ x ∈ p2, x.block < W.heap.size := by obtain ⟨m, hm⟩ := h2; exact DataW.trod_lt m _ _ _ hm
  obtain ⟨a2, rfl⟩ := open_pr7 (hval 2 29 v2 rfl rfl) h2
  have lt3 : ∀ x ∈ p3, x.block < W.heap.size := by obtain ⟨m, hm⟩ := h3; exact DataW.trod_lt m _ _ _ hm
  have k3 := h3
  obtain ⟨a3, rfl, e3, f3, w3⟩ := open_int Try.underlying3 (hval 3 3 v3 rfl rfl) h3
  clear hA0 hval0
  refine (leafis_law A0 cap0 l0 a1 a2 a3 W w0).mono fun e W' ⟨he, bel⟩ => ?_
  subst he
  exact ⟨_, rfl, _, _, _, [], _, [], hW', trodAll_mk1 (shut_bool Try.underlying4 _), (trodAll_cons_mk (Below.trod laidOut (by kernel_rfl) (of_decide_eq_true (by kernel_rfl)) h0 bel lt0) (trodAll_cons_mk (Below.trod laidOut (by kernel_rfl) (of_decide_eq_true (by kernel_rfl)) h1 bel lt1) (trodAll_cons_mk (Below.trod laidOut (by kernel_rfl) (of_decide_eq_true (by kernel_rfl)) h2 bel lt2) (trodAll_cons_mk (Below.trod laidOut (by kernel_rfl) (of_decide_eq_true (by kernel_rfl)) h3 bel lt3) trodAll_mk0)))), rfl, bel.frame _, fun h => by cases h⟩

theorem leafgenIs_holds : Rows.LeafgenIsSaid :=
  OpenClaim.holds_of_wide 3 Try.f3 rfl rfl rfl rfl rfl rfl rfl ⟨rfl, rfl, rfl, rfl, rfl⟩ rfl rfl rfl rfl rfl (by kernel_rfl) Try.func3 (by kernel_rfl)
    (of_decide_eq_true (by kernel_rfl)) (by unfold Func.isWrapper; first | (rw [if_pos (by decide +kernel)]; kernel_rfl) | (rw [if_neg (by decide +kernel)]; exact ⟨rfl, rfl⟩))
    (fun os started H enc _ => leafgenIs_lifted os started H enc)

end Go.Proofs.Ytnmjofccedjkkaa
