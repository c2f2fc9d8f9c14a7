/-
  LeafgenMore: for every input the call returns true, and each argument reads afterwards as it read before. No condition.
-/
import Derived.Test.YtnmjofccedjkkaaH1
namespace Go.Proofs.Ytnmjofccedjkkaa
open Go.RowKit Go.Maps
set_option maxRecDepth 100000


set_option maxHeartbeats 8000000 in
theorem leafmore_law (A : Option Addr) (cap : Nat) (ls : List Pr) (x : Pr) (a : Ad) (w : World) (hr : RdQ w A ls) :
    Calls Try.prog 7 #[.slice A ls.length cap, .agg #[.int .u64 (u x.p.a.hi), .int .u64 (u x.p.a.lo), .bool x.p.a.v6, .int .i64 x.p.n, .int .i64 x.v], .agg #[.int .u64 (u a.hi), .int .u64 (u a.lo), .bool a.v6]] w fun e w' => e = .returned (.bool true) ∧ Below w.heap.size w w' := by
  have HRD := Lib.hid hr
  clear hr
  by_cases hlen : 60 < ls.length
  · have t0 : decide ((60 : Int) < (ls.length : Int)) = true := by simp; omega
    go_enter Try.func7, Try.ntmps7
    go_wp2_with fail
    refine (awake7_any _).mono ?_
    rintro e w1 ⟨rfl, hw1⟩
    have b1 : Below w.heap.size w w1 := below_of (by go_grown) hw1
    go_wp2
    go_ret
    exact ⟨rfl, b1⟩
  · have t0 : decide ((60 : Int) < (ls.length : Int)) = false := by simp; omega
    go_enter Try.func7, Try.ntmps7
    go_wp2_with fail
    refine (awake7_any _).mono ?_
    rintro e w1 ⟨rfl, hw1⟩
    have b1 : Below w.heap.size w w1 := below_of (by go_grown) hw1
    have Hx1 : Hid (QBox w1 (w.heap.size) x) := Lib.hid (QBox.kept (by refine ⟨?_, ?_, ?_, ?_, ?_, ?_⟩ <;> first | (go_simp; done) | (go_simp <;> rfl) | go_size) hw1)
    have Hp1 : Hid (ABox w1 (w.heap.size + 1) a) := Lib.hid (ABox.keep ⟨by go_simp <;> rfl, by go_simp <;> rfl, by go_simp <;> rfl, by go_size⟩ hw1)
    have v1 := Hp1.out.2.2.2
    clear hw1
    go_wp2_with fail
    refine (filled_any A cap ls _ (HRD.out.keep b1 (Nat.le_refl _)) (by omega)).mono ?_
    rintro e w3 ⟨r, S, rfl, hR3, hm3, hS3, hb3⟩
    have Hx3 := Lib.hid (Hx1.out.kept hb3)
    have Hp3 := Lib.hid (Hp1.out.keep hb3)
    have b3 := b1.trans (hb3.mono b1.size)
    have z1 := b1.size
    have z3 := b3.size
    have hs3 := hR3.srt
    generalize (fillK ls ls.length).1 = L at hR3 hs3
    generalize (fillK ls ls.length).2 = M at hR3 hm3
    have HR3 := Lib.hid hR3
    have HS3 := Lib.hid hS3
    have HSR := Lib.hid hs3
    clear hR3 hS3 hs3 hb3 HRD b1 t0 Hx1 Hp1
    have hMb : M + 128 ≤ 1000000000 := by omega
    have HLT := Lib.hid HR3.out.lt
    have cb := fun W S L M (H : RibS W r S 200 200 L M) => block_any H a
    have cl := fun W S L M (H : RibS W r S 200 200 L M) => leaf_any H a
    unfold OptPost at cl
    have ca := fun W (H : RibS W r S 200 200 L M) => rib_add H hMb x.p x.v
    have cc := pcov_any (wideP L a 0) (wideP (addQ 200 200 L x.p x.v) a 0)
    obtain ⟨M2, hM2⟩ : ∃ M2, addM 200 200 L x.p x.v M = M2 := ⟨_, rfl⟩
    rw [hM2] at ca
    clear hM2 hm3
    by_cases he : addE 200 200 L x.p x.v = 0
    · have hp : psane x.p = true := by
        cases hp : psane x.p
        · exfalso
          unfold addE at he
          rw [hp] at he
          cases he
        · rfl
      have hQ : addQ 200 200 L x.p x.v = putL x.p x.v L := by unfold addQ; rw [if_pos he]
      rw [hQ] at ca cc
      rw [he] at ca
      rw [wide_more HSR.out hp a] at cc
      have la := @leaf_apart L x.p x.v HSR.out hp a
      have cp := papa_any (wideP L a 0) x.p
      obtain ⟨L2, hL2⟩ : ∃ L2, putL x.p x.v L = L2 := ⟨_, rfl⟩
      rw [hL2] at ca cc la
      clear hL2 hQ he hp
      have cb1 := fun W (H : RibS W r S 200 200 L M) => cb W S L M H
      have cl1 := fun W (H : RibS W r S 200 200 L M) => cl W S L M H
      have cb2 := fun W S' (H : RibS W r S' 200 200 L2 M2) => cb W S' L2 M2 H
      have cl2 := fun W S' (H : RibS W r S' 200 200 L2 M2) => cl W S' L2 M2 H
      cases hap : papa (wideP L a 0) x.p
      · rw [hap] at cp
        obtain ⟨P, hP⟩ : ∃ P, wideP L a 0 = P := ⟨_, rfl⟩
        obtain ⟨P2, hP2⟩ : ∃ P2, wideP L2 a 0 = P2 := ⟨_, rfl⟩
        obtain ⟨Y, hY⟩ : ∃ Y, (leafO L a).getD nilPr = Y := ⟨_, rfl⟩
        obtain ⟨Z, hZ⟩ : ∃ Z, (leafO L2 a).getD nilPr = Z := ⟨_, rfl⟩
        obtain ⟨ok, hk⟩ : ∃ ok, (leafO L a).isSome = ok := ⟨_, rfl⟩
        obtain ⟨oz, hz⟩ : ∃ oz, (leafO L2 a).isSome = oz := ⟨_, rfl⟩
        rw [hY, hk] at cl1
        rw [hZ, hz] at cl2
        rw [hP] at cb1 cc cp
        rw [hP2] at cb2 cc
        clear hap la hP hP2 hY hZ hk hz cb cl
        have CA := Lib.hid ca
        have CB1 := Lib.hid cb1
        have CL1 := Lib.hid cl1
        have CB2 := Lib.hid cb2
        have CL2 := Lib.hid cl2
        have CC := Lib.hid cc
        have CP := Lib.hid cp
        clear ca cb1 cl1 cb2 cl2 cc cp
        obtain ⟨pa, pb, pc, pz⟩ := id Hp3.out
        go_wp2_with fail
        refine (CB1.out _ HR3.out).mono ?_
        rintro e w4 ⟨rfl, hw⟩
        have ee := hw
        have Hx4 := Lib.hid (Hx3.out.kept ee)
        have Hp4 := Lib.hid (Hp3.out.keep ee)
        have HR4 := Lib.hid (HR3.out.keep ee)
        have b4 := b3.trans (ee.mono b3.size)
        have z4 := b4.size
        have y4 := ee.size
        clear hw ee HR3 Hx3 Hp3 pa pb pc pz
        obtain ⟨pa, pb, pc, pz⟩ := id Hp4.out
        have pn0 : ¬ w.heap.size + 1 = w4.heap.size := by omega
        go_wp2_with fail
        refine (CL1.out _ (HR4.out.keep (by go_grown))).mono ?_
        rintro e w5 ⟨rfl, hw⟩
        have ee : Below w4.heap.size w4 w5 := below_of (by go_grown) hw
        have Hb5 : Hid (PBox w5 (w4.heap.size) P) := Lib.hid (PBox.keep (by exact ⟨by go_simp <;> rfl, by go_simp <;> rfl, by go_simp <;> rfl, by go_simp <;> rfl, by go_simp <;> rfl, by go_simp <;> rfl, by go_simp <;> rfl, by go_simp <;> rfl, by go_size⟩) hw)
        have Hx5 := Lib.hid (Hx4.out.kept ee)
        have Hp5 := Lib.hid (Hp4.out.keep ee)
        have HR5 := Lib.hid (HR4.out.keep ee)
        have b5 := b4.trans (ee.mono b4.size)
        have z5 := b5.size
        have y5 := ee.size
        clear hw ee HR4 Hx4 Hp4 pa pb pc pz pn0
        obtain ⟨x0, x1, x2, x3, x4, xz⟩ := id Hx5.out
        have xn0 : ¬ w.heap.size = w5.heap.size := by omega
        go_wp2_with fail
        generalize hV : World.alloc _ _ = w6
        have ee : Below w5.heap.size w5 w6 := by subst hV; go_grown
        have Hy6 : Hid (QBox w6 (w5.heap.size) Y) := Lib.hid (by subst hV; exact (by refine ⟨?_, ?_, ?_, ?_, ?_, ?_⟩ <;> first | (go_simp; done) | (go_simp <;> rfl) | go_size))
        have Hx6 := Lib.hid (Hx5.out.kept ee)
        have Hp6 := Lib.hid (Hp5.out.keep ee)
        have Hb6 := Lib.hid (Hb5.out.keep ee)
        have HR6 := Lib.hid (HR5.out.keep ee)
        have b6 := b5.trans (ee.mono b5.size)
        have z6 := b6.size
        have y6 := ee.size
        clear hV ee HR5 Hx5 Hp5 Hb5 x0 x1 x2 x3 x4 xz xn0
        refine (CA.out _ HR6.out).mono ?_
        rintro e w7 ⟨⟨rfl, S6, g1, g2, g3⟩, -⟩
        have Hx7 := Lib.hid (Hx6.out.turn g2 (fun e => by have h1 := HS3.out _ e; have h2 := HLT.out _ e; omega))
        have Hp7 := Lib.hid (Hp6.out.frm g2 (fun e => by have h1 := HS3.out _ e; have h2 := HLT.out _ e; omega))
        have Hb7 := Lib.hid (Hb6.out.frm g2 (fun e => by have h1 := HS3.out _ e; have h2 := HLT.out _ e; omega))
        have Hy7 := Lib.hid (Hy6.out.turn g2 (fun e => by have h1 := HS3.out _ e; have h2 := HLT.out _ e; omega))
        have HR7 := Lib.hid g1
        have b7 := b6.trans (g2.below (fun b hb => by have := HS3.out b hb; omega) (by omega))
        have z7 := b7.size
        have y7 := g2.size
        clear g1 g2 g3 CA HS3 HLT HR6 Hx6 Hp6 Hb6 Hy6
        obtain ⟨pa, pb, pc, pz⟩ := id Hp7.out
        go_wp2_with fail
        refine (CB2.out _ _ HR7.out).mono ?_
        rintro e w8 ⟨rfl, hw⟩
        have ee := hw
        have Hx8 := Lib.hid (Hx7.out.kept ee)
        have Hp8 := Lib.hid (Hp7.out.keep ee)
        have Hb8 := Lib.hid (Hb7.out.keep ee)
        have Hy8 := Lib.hid (Hy7.out.kept ee)
        have HR8 := Lib.hid (HR7.out.keep ee)
        have b8 := b7.trans (ee.mono b7.size)
        have z8 := b8.size
        have y8 := ee.size
        clear hw ee HR7 Hx7 Hp7 Hb7 Hy7 pa pb pc pz
        obtain ⟨pa, pb, pc, pz⟩ := id Hp8.out
        have pn0 : ¬ w.heap.size + 1 = w8.heap.size := by omega
        go_wp2_with fail
        refine (CL2.out _ _ (HR8.out.keep (by go_grown))).mono ?_
        rintro e w9 ⟨rfl, hw⟩
        have ee : Below w8.heap.size w8 w9 := below_of (by go_grown) hw
        have Hc9 : Hid (PBox w9 (w8.heap.size) P2) := Lib.hid (PBox.keep (by exact ⟨by go_simp <;> rfl, by go_simp <;> rfl, by go_simp <;> rfl, by go_simp <;> rfl, by go_simp <;> rfl, by go_simp <;> rfl, by go_simp <;> rfl, by go_simp <;> rfl, by go_size⟩) hw)
        have Hx9 := Lib.hid (Hx8.out.kept ee)
        have Hp9 := Lib.hid (Hp8.out.keep ee)
        have Hb9 := Lib.hid (Hb8.out.keep ee)
        have Hy9 := Lib.hid (Hy8.out.kept ee)
        have HR9 := Lib.hid (HR8.out.keep ee)
        have b9 := b8.trans (ee.mono b8.size)
        have z9 := b9.size
        have y9 := ee.size
        clear hw ee HR8 Hx8 Hp8 Hb8 Hy8 pa pb pc pz pn0
        obtain ⟨ba, bb, bc, bg, -, -, -, -, bz⟩ := id Hb9.out
        have bn0 : ¬ w4.heap.size = w9.heap.size := by omega
        obtain ⟨ca, cb, cc, cg, -, -, -, -, cz⟩ := id Hc9.out
        have cn0 : ¬ w8.heap.size = w9.heap.size := by omega
        go_wp2_with fail
        refine (CC.out _).mono ?_
        rintro e w10 ⟨rfl, hw⟩
        have ee : Below w9.heap.size w9 w10 := below_of (by go_grown) hw
        have Hv10 : Hid (QBox w10 (w9.heap.size) Z) := Lib.hid (QBox.kept (by refine ⟨?_, ?_, ?_, ?_, ?_, ?_⟩ <;> first | (go_simp; done) | (go_simp <;> rfl) | go_size) hw)
        have Hx10 := Lib.hid (Hx9.out.kept ee)
        have Hp10 := Lib.hid (Hp9.out.keep ee)
        have Hb10 := Lib.hid (Hb9.out.keep ee)
        have Hy10 := Lib.hid (Hy9.out.kept ee)
        have Hc10 := Lib.hid (Hc9.out.keep ee)
        have HR10 := Lib.hid (HR9.out.keep ee)
        have b10 := b9.trans (ee.mono b9.size)
        have z10 := b10.size
        have y10 := ee.size
        clear hw ee HR9 Hx9 Hp9 Hb9 Hy9 Hc9 ba bb bc bg bz bn0 ca cb cc cg cz cn0
        obtain ⟨ba, bb, bc, bg, -, -, -, -, bz⟩ := id Hb10.out
        obtain ⟨x0, x1, x2, x3, x4, xz⟩ := id Hx10.out
        go_wp2_with fail
        refine (CP.out _).mono ?_
        rintro e w11 ⟨rfl, hw⟩
        have ee := hw
        have Hx11 := Lib.hid (Hx10.out.kept ee)
        have Hp11 := Lib.hid (Hp10.out.keep ee)
        have Hb11 := Lib.hid (Hb10.out.keep ee)
        have Hy11 := Lib.hid (Hy10.out.kept ee)
        have Hc11 := Lib.hid (Hc10.out.keep ee)
        have Hv11 := Lib.hid (Hv10.out.kept ee)
        have HR11 := Lib.hid (HR10.out.keep ee)
        have b11 := b10.trans (ee.mono b10.size)
        have z11 := b11.size
        have y11 := ee.size
        clear hw ee HR10 Hx10 Hp10 Hb10 Hy10 Hc10 Hv10 ba bb bc bg bz x0 x1 x2 x3 x4 xz
        go_wp2
        go_ret
        exact ⟨rfl, b11⟩
      · rw [hap] at cp
        obtain ⟨l1, l2⟩ := la hap
        rw [l1] at cb2 cc
        rw [l2] at cl2
        obtain ⟨P, hP⟩ : ∃ P, wideP L a 0 = P := ⟨_, rfl⟩
        obtain ⟨O, hO⟩ : ∃ O, leafO L a = O := ⟨_, rfl⟩
        rw [hO] at cl1 cl2
        obtain ⟨Y, hY⟩ : ∃ Y, O.getD nilPr = Y := ⟨_, rfl⟩
        obtain ⟨ok, hk⟩ : ∃ ok, O.isSome = ok := ⟨_, rfl⟩
        rw [hY, hk] at cl1 cl2
        rw [hP] at cb1 cb2 cc cp
        clear hap la l1 l2 hP hO hY hk cb cl
        have CA := Lib.hid ca
        have CB1 := Lib.hid cb1
        have CL1 := Lib.hid cl1
        have CB2 := Lib.hid cb2
        have CL2 := Lib.hid cl2
        have CC := Lib.hid cc
        have CP := Lib.hid cp
        clear ca cb1 cl1 cb2 cl2 cc cp
        obtain ⟨pa, pb, pc, pz⟩ := id Hp3.out
        go_wp2_with fail
        refine (CB1.out _ HR3.out).mono ?_
        rintro e w4 ⟨rfl, hw⟩
        have ee := hw
        have Hx4 := Lib.hid (Hx3.out.kept ee)
        have Hp4 := Lib.hid (Hp3.out.keep ee)
        have HR4 := Lib.hid (HR3.out.keep ee)
        have b4 := b3.trans (ee.mono b3.size)
        have z4 := b4.size
        have y4 := ee.size
        clear hw ee HR3 Hx3 Hp3 pa pb pc pz
        obtain ⟨pa, pb, pc, pz⟩ := id Hp4.out
        have pn0 : ¬ w.heap.size + 1 = w4.heap.size := by omega
        go_wp2_with fail
        refine (CL1.out _ (HR4.out.keep (by go_grown))).mono ?_
        rintro e w5 ⟨rfl, hw⟩
        have ee : Below w4.heap.size w4 w5 := below_of (by go_grown) hw
        have Hb5 : Hid (PBox w5 (w4.heap.size) P) := Lib.hid (PBox.keep (by exact ⟨by go_simp <;> rfl, by go_simp <;> rfl, by go_simp <;> rfl, by go_simp <;> rfl, by go_simp <;> rfl, by go_simp <;> rfl, by go_simp <;> rfl, by go_simp <;> rfl, by go_size⟩) hw)
        have Hx5 := Lib.hid (Hx4.out.kept ee)
        have Hp5 := Lib.hid (Hp4.out.keep ee)
        have HR5 := Lib.hid (HR4.out.keep ee)
        have b5 := b4.trans (ee.mono b4.size)
        have z5 := b5.size
        have y5 := ee.size
        clear hw ee HR4 Hx4 Hp4 pa pb pc pz pn0
        obtain ⟨x0, x1, x2, x3, x4, xz⟩ := id Hx5.out
        have xn0 : ¬ w.heap.size = w5.heap.size := by omega
        go_wp2_with fail
        generalize hV : World.alloc _ _ = w6
        have ee : Below w5.heap.size w5 w6 := by subst hV; go_grown
        have Hy6 : Hid (QBox w6 (w5.heap.size) Y) := Lib.hid (by subst hV; exact (by refine ⟨?_, ?_, ?_, ?_, ?_, ?_⟩ <;> first | (go_simp; done) | (go_simp <;> rfl) | go_size))
        have Hx6 := Lib.hid (Hx5.out.kept ee)
        have Hp6 := Lib.hid (Hp5.out.keep ee)
        have Hb6 := Lib.hid (Hb5.out.keep ee)
        have HR6 := Lib.hid (HR5.out.keep ee)
        have b6 := b5.trans (ee.mono b5.size)
        have z6 := b6.size
        have y6 := ee.size
        clear hV ee HR5 Hx5 Hp5 Hb5 x0 x1 x2 x3 x4 xz xn0
        refine (CA.out _ HR6.out).mono ?_
        rintro e w7 ⟨⟨rfl, S6, g1, g2, g3⟩, -⟩
        have Hx7 := Lib.hid (Hx6.out.turn g2 (fun e => by have h1 := HS3.out _ e; have h2 := HLT.out _ e; omega))
        have Hp7 := Lib.hid (Hp6.out.frm g2 (fun e => by have h1 := HS3.out _ e; have h2 := HLT.out _ e; omega))
        have Hb7 := Lib.hid (Hb6.out.frm g2 (fun e => by have h1 := HS3.out _ e; have h2 := HLT.out _ e; omega))
        have Hy7 := Lib.hid (Hy6.out.turn g2 (fun e => by have h1 := HS3.out _ e; have h2 := HLT.out _ e; omega))
        have HR7 := Lib.hid g1
        have b7 := b6.trans (g2.below (fun b hb => by have := HS3.out b hb; omega) (by omega))
        have z7 := b7.size
        have y7 := g2.size
        clear g1 g2 g3 CA HS3 HLT HR6 Hx6 Hp6 Hb6 Hy6
        obtain ⟨pa, pb, pc, pz⟩ := id Hp7.out
        go_wp2_with fail
        refine (CB2.out _ _ HR7.out).mono ?_
        rintro e w8 ⟨rfl, hw⟩
        have ee := hw
        have Hx8 := Lib.hid (Hx7.out.kept ee)
        have Hp8 := Lib.hid (Hp7.out.keep ee)
        have Hb8 := Lib.hid (Hb7.out.keep ee)
        have Hy8 := Lib.hid (Hy7.out.kept ee)
        have HR8 := Lib.hid (HR7.out.keep ee)
        have b8 := b7.trans (ee.mono b7.size)
        have z8 := b8.size
        have y8 := ee.size
        clear hw ee HR7 Hx7 Hp7 Hb7 Hy7 pa pb pc pz
        obtain ⟨pa, pb, pc, pz⟩ := id Hp8.out
        have pn0 : ¬ w.heap.size + 1 = w8.heap.size := by omega
        go_wp2_with fail
        refine (CL2.out _ _ (HR8.out.keep (by go_grown))).mono ?_
        rintro e w9 ⟨rfl, hw⟩
        have ee : Below w8.heap.size w8 w9 := below_of (by go_grown) hw
        have Hc9 : Hid (PBox w9 (w8.heap.size) P) := Lib.hid (PBox.keep (by exact ⟨by go_simp <;> rfl, by go_simp <;> rfl, by go_simp <;> rfl, by go_simp <;> rfl, by go_simp <;> rfl, by go_simp <;> rfl, by go_simp <;> rfl, by go_simp <;> rfl, by go_size⟩) hw)
        have Hx9 := Lib.hid (Hx8.out.kept ee)
        have Hp9 := Lib.hid (Hp8.out.keep ee)
        have Hb9 := Lib.hid (Hb8.out.keep ee)
        have Hy9 := Lib.hid (Hy8.out.kept ee)
        have HR9 := Lib.hid (HR8.out.keep ee)
        have b9 := b8.trans (ee.mono b8.size)
        have z9 := b9.size
        have y9 := ee.size
        clear hw ee HR8 Hx8 Hp8 Hb8 Hy8 pa pb pc pz pn0
        obtain ⟨ba, bb, bc, bg, -, -, -, -, bz⟩ := id Hb9.out
        have bn0 : ¬ w4.heap.size = w9.heap.size := by omega
        obtain ⟨ca, cb, cc, cg, -, -, -, -, cz⟩ := id Hc9.out
        have cn0 : ¬ w8.heap.size = w9.heap.size := by omega
        go_wp2_with fail
        refine (CC.out _).mono ?_
        rintro e w10 ⟨rfl, hw⟩
        have ee : Below w9.heap.size w9 w10 := below_of (by go_grown) hw
        have Hv10 : Hid (QBox w10 (w9.heap.size) Y) := Lib.hid (QBox.kept (by refine ⟨?_, ?_, ?_, ?_, ?_, ?_⟩ <;> first | (go_simp; done) | (go_simp <;> rfl) | go_size) hw)
        have Hx10 := Lib.hid (Hx9.out.kept ee)
        have Hp10 := Lib.hid (Hp9.out.keep ee)
        have Hb10 := Lib.hid (Hb9.out.keep ee)
        have Hy10 := Lib.hid (Hy9.out.kept ee)
        have Hc10 := Lib.hid (Hc9.out.keep ee)
        have HR10 := Lib.hid (HR9.out.keep ee)
        have b10 := b9.trans (ee.mono b9.size)
        have z10 := b10.size
        have y10 := ee.size
        clear hw ee HR9 Hx9 Hp9 Hb9 Hy9 Hc9 ba bb bc bg bz bn0 ca cb cc cg cz cn0
        obtain ⟨ba, bb, bc, bg, -, -, -, -, bz⟩ := id Hb10.out
        obtain ⟨x0, x1, x2, x3, x4, xz⟩ := id Hx10.out
        go_wp2_with fail
        refine (CP.out _).mono ?_
        rintro e w11 ⟨rfl, hw⟩
        have ee := hw
        have Hx11 := Lib.hid (Hx10.out.kept ee)
        have Hp11 := Lib.hid (Hp10.out.keep ee)
        have Hb11 := Lib.hid (Hb10.out.keep ee)
        have Hy11 := Lib.hid (Hy10.out.kept ee)
        have Hc11 := Lib.hid (Hc10.out.keep ee)
        have Hv11 := Lib.hid (Hv10.out.kept ee)
        have HR11 := Lib.hid (HR10.out.keep ee)
        have b11 := b10.trans (ee.mono b10.size)
        have z11 := b11.size
        have y11 := ee.size
        clear hw ee HR10 Hx10 Hp10 Hb10 Hy10 Hc10 Hv10 ba bb bc bg bz x0 x1 x2 x3 x4 xz
        obtain ⟨y0, y1, y2, y3, y4, yz⟩ := id Hy11.out
        obtain ⟨v0, v1, v2, v3, v4, vz⟩ := id Hv11.out
        go_wp2
        go_ret
        exact ⟨rfl, b11⟩
    · have hQ : addQ 200 200 L x.p x.v = L := by unfold addQ; rw [if_neg he]
      rw [hQ] at ca cc
      rw [cov_refl _ (wide_sane L a 0)] at cc
      obtain ⟨E, hE⟩ : ∃ E, addE 200 200 L x.p x.v = E := ⟨_, rfl⟩
      rw [hE] at ca he
      have te : (E == 0) = false := by simpa using he
      obtain ⟨P, hP⟩ : ∃ P, wideP L a 0 = P := ⟨_, rfl⟩
      obtain ⟨O, hO⟩ : ∃ O, leafO L a = O := ⟨_, rfl⟩
      obtain ⟨Y, hY⟩ : ∃ Y, O.getD nilPr = Y := ⟨_, rfl⟩
      obtain ⟨ok, hk⟩ : ∃ ok, O.isSome = ok := ⟨_, rfl⟩
      have cb1 := fun W (H : RibS W r S 200 200 L M) => cb W S L M H
      have cl1 := fun W (H : RibS W r S 200 200 L M) => cl W S L M H
      have cb2 := fun W S' (H : RibS W r S' 200 200 L M2) => cb W S' L M2 H
      have cl2 := fun W S' (H : RibS W r S' 200 200 L M2) => cl W S' L M2 H
      rw [hO, hY, hk] at cl1 cl2
      rw [hP] at cb1 cb2 cc
      clear hQ hE he hP hO hY hk cb cl
      have CA := Lib.hid ca
      have CB1 := Lib.hid cb1
      have CL1 := Lib.hid cl1
      have CB2 := Lib.hid cb2
      have CL2 := Lib.hid cl2
      have CC := Lib.hid cc
      clear ca cb1 cl1 cb2 cl2 cc
      obtain ⟨pa, pb, pc, pz⟩ := id Hp3.out
      go_wp2_with fail
      refine (CB1.out _ HR3.out).mono ?_
      rintro e w4 ⟨rfl, hw⟩
      have ee := hw
      have Hx4 := Lib.hid (Hx3.out.kept ee)
      have Hp4 := Lib.hid (Hp3.out.keep ee)
      have HR4 := Lib.hid (HR3.out.keep ee)
      have b4 := b3.trans (ee.mono b3.size)
      have z4 := b4.size
      have y4 := ee.size
      clear hw ee HR3 Hx3 Hp3 pa pb pc pz
      obtain ⟨pa, pb, pc, pz⟩ := id Hp4.out
      have pn0 : ¬ w.heap.size + 1 = w4.heap.size := by omega
      go_wp2_with fail
      refine (CL1.out _ (HR4.out.keep (by go_grown))).mono ?_
      rintro e w5 ⟨rfl, hw⟩
      have ee : Below w4.heap.size w4 w5 := below_of (by go_grown) hw
      have Hb5 : Hid (PBox w5 (w4.heap.size) P) := Lib.hid (PBox.keep (by exact ⟨by go_simp <;> rfl, by go_simp <;> rfl, by go_simp <;> rfl, by go_simp <;> rfl, by go_simp <;> rfl, by go_simp <;> rfl, by go_simp <;> rfl, by go_simp <;> rfl, by go_size⟩) hw)
      have Hx5 := Lib.hid (Hx4.out.kept ee)
      have Hp5 := Lib.hid (Hp4.out.keep ee)
      have HR5 := Lib.hid (HR4.out.keep ee)
      have b5 := b4.trans (ee.mono b4.size)
      have z5 := b5.size
      have y5 := ee.size
      clear hw ee HR4 Hx4 Hp4 pa pb pc pz pn0
      obtain ⟨x0, x1, x2, x3, x4, xz⟩ := id Hx5.out
      have xn0 : ¬ w.heap.size = w5.heap.size := by omega
      go_wp2_with fail
      generalize hV : World.alloc _ _ = w6
      have ee : Below w5.heap.size w5 w6 := by subst hV; go_grown
      have Hy6 : Hid (QBox w6 (w5.heap.size) Y) := Lib.hid (by subst hV; exact (by refine ⟨?_, ?_, ?_, ?_, ?_, ?_⟩ <;> first | (go_simp; done) | (go_simp <;> rfl) | go_size))
      have Hx6 := Lib.hid (Hx5.out.kept ee)
      have Hp6 := Lib.hid (Hp5.out.keep ee)
      have Hb6 := Lib.hid (Hb5.out.keep ee)
      have HR6 := Lib.hid (HR5.out.keep ee)
      have b6 := b5.trans (ee.mono b5.size)
      have z6 := b6.size
      have y6 := ee.size
      clear hV ee HR5 Hx5 Hp5 Hb5 x0 x1 x2 x3 x4 xz xn0
      refine (CA.out _ HR6.out).mono ?_
      rintro e w7 ⟨⟨rfl, S6, g1, g2, g3⟩, -⟩
      have Hx7 := Lib.hid (Hx6.out.turn g2 (fun e => by have h1 := HS3.out _ e; have h2 := HLT.out _ e; omega))
      have Hp7 := Lib.hid (Hp6.out.frm g2 (fun e => by have h1 := HS3.out _ e; have h2 := HLT.out _ e; omega))
      have Hb7 := Lib.hid (Hb6.out.frm g2 (fun e => by have h1 := HS3.out _ e; have h2 := HLT.out _ e; omega))
      have Hy7 := Lib.hid (Hy6.out.turn g2 (fun e => by have h1 := HS3.out _ e; have h2 := HLT.out _ e; omega))
      have HR7 := Lib.hid g1
      have b7 := b6.trans (g2.below (fun b hb => by have := HS3.out b hb; omega) (by omega))
      have z7 := b7.size
      have y7 := g2.size
      clear g1 g2 g3 CA HS3 HLT HR6 Hx6 Hp6 Hb6 Hy6
      obtain ⟨pa, pb, pc, pz⟩ := id Hp7.out
      go_wp2_with fail
      refine (CB2.out _ _ HR7.out).mono ?_
      rintro e w8 ⟨rfl, hw⟩
      have ee := hw
      have Hx8 := Lib.hid (Hx7.out.kept ee)
      have Hp8 := Lib.hid (Hp7.out.keep ee)
      have Hb8 := Lib.hid (Hb7.out.keep ee)
      have Hy8 := Lib.hid (Hy7.out.kept ee)
      have HR8 := Lib.hid (HR7.out.keep ee)
      have b8 := b7.trans (ee.mono b7.size)
      have z8 := b8.size
      have y8 := ee.size
      clear hw ee HR7 Hx7 Hp7 Hb7 Hy7 pa pb pc pz
      obtain ⟨pa, pb, pc, pz⟩ := id Hp8.out
      have pn0 : ¬ w.heap.size + 1 = w8.heap.size := by omega
      go_wp2_with fail
      refine (CL2.out _ _ (HR8.out.keep (by go_grown))).mono ?_
      rintro e w9 ⟨rfl, hw⟩
      have ee : Below w8.heap.size w8 w9 := below_of (by go_grown) hw
      have Hc9 : Hid (PBox w9 (w8.heap.size) P) := Lib.hid (PBox.keep (by exact ⟨by go_simp <;> rfl, by go_simp <;> rfl, by go_simp <;> rfl, by go_simp <;> rfl, by go_simp <;> rfl, by go_simp <;> rfl, by go_simp <;> rfl, by go_simp <;> rfl, by go_size⟩) hw)
      have Hx9 := Lib.hid (Hx8.out.kept ee)
      have Hp9 := Lib.hid (Hp8.out.keep ee)
      have Hb9 := Lib.hid (Hb8.out.keep ee)
      have Hy9 := Lib.hid (Hy8.out.kept ee)
      have HR9 := Lib.hid (HR8.out.keep ee)
      have b9 := b8.trans (ee.mono b8.size)
      have z9 := b9.size
      have y9 := ee.size
      clear hw ee HR8 Hx8 Hp8 Hb8 Hy8 pa pb pc pz pn0
      obtain ⟨ba, bb, bc, bg, -, -, -, -, bz⟩ := id Hb9.out
      have bn0 : ¬ w4.heap.size = w9.heap.size := by omega
      obtain ⟨ca, cb, cc, cg, -, -, -, -, cz⟩ := id Hc9.out
      have cn0 : ¬ w8.heap.size = w9.heap.size := by omega
      go_wp2_with fail
      refine (CC.out _).mono ?_
      rintro e w10 ⟨rfl, hw⟩
      have ee : Below w9.heap.size w9 w10 := below_of (by go_grown) hw
      have Hv10 : Hid (QBox w10 (w9.heap.size) Y) := Lib.hid (QBox.kept (by refine ⟨?_, ?_, ?_, ?_, ?_, ?_⟩ <;> first | (go_simp; done) | (go_simp <;> rfl) | go_size) hw)
      have Hx10 := Lib.hid (Hx9.out.kept ee)
      have Hp10 := Lib.hid (Hp9.out.keep ee)
      have Hb10 := Lib.hid (Hb9.out.keep ee)
      have Hy10 := Lib.hid (Hy9.out.kept ee)
      have Hc10 := Lib.hid (Hc9.out.keep ee)
      have HR10 := Lib.hid (HR9.out.keep ee)
      have b10 := b9.trans (ee.mono b9.size)
      have z10 := b10.size
      have y10 := ee.size
      clear hw ee HR9 Hx9 Hp9 Hb9 Hy9 Hc9 ba bb bc bg bz bn0 ca cb cc cg cz cn0
      obtain ⟨ba, bb, bc, bg, -, -, -, -, bz⟩ := id Hb10.out
      obtain ⟨ca, cb, cc, cg, -, -, -, -, cz⟩ := id Hc10.out
      obtain ⟨y0, y1, y2, y3, y4, yz⟩ := id Hy10.out
      obtain ⟨v0, v1, v2, v3, v4, vz⟩ := id Hv10.out
      go_wp2
      go_ret
      exact ⟨rfl, b10⟩

end Go.Proofs.Ytnmjofccedjkkaa

namespace Go.Proofs.Ytnmjofccedjkkaa
open Go.ChangeShapes Go.WideShapes Go.ChangeAt Go.RowKit

set_option maxRecDepth 100000 in
theorem leafgenMore_lifted (os : Os) (started : os.Started) (H : Type) (enc : TypeId × Value → H) :
    ReturnsInHanded {} Try.checked os 7 .any (Rows.leafgenMoreSpec.pre6 enc Try.prog Try.f7 Rows.leafgenMoreRow.domain false) (Rows.leafgenMoreSpec.post enc Try.prog Try.f7 false true false false) := by
  refine returnsInHanded_of_change (C := Try.checked) own started (by kernel_rfl) Try.func7
    (ChangeSpec.witness6 (enc := enc) (C := Try.checked) false ⟨#[], #[.slice none 0 0, .agg #[.int .u64 0, .int .u64 0, .bool false, .int .i64 0, .int .i64 0], .agg #[.int .u64 0, .int .u64 0, .bool false]], []⟩ 8 (by kernel_rfl) (by kernel_rfl) (by kernel_rfl) (by kernel_rfl)) ?_
  intro W base args ds gs before hval0 hW hcnd _
  have hval : ∀ (j : Nat) t v, Try.f7.params[j]? = some t → args[j]? = some v → Value.okWide Try.prog W .any base t v := hval0
  have hW' := hW
  obtain ⟨p, q, hA0, hV, rfl, hfz, hnd⟩ := hW
  have hA : DataW.TrodAll enc Try.prog W 0 (fun _ => true) true Try.f7.params.toList args.toList ds p := hA0
  rw [Try.params7] at hA hval
  obtain ⟨v0, vs0, d0, ds0, p0, q0, hargs, rfl, rfl, h0, r0⟩ := trodAll_cons hA
  obtain ⟨v1, vs1, d1, ds1, p1, q1, rfl, rfl, rfl, h1, r1⟩ := trodAll_cons r0
  obtain ⟨v2, vs2, d2, ds2, p2, q2, rfl, rfl, rfl, h2, r2⟩ := trodAll_cons r1
  obtain ⟨rfl, rfl, rfl⟩ := trodAll_nil r2
  obtain rfl : args = #[v0, v1, v2] := by cases args; simp_all
  obtain ⟨rfl, rfl⟩ := trodVars_none hV
  have lt0 : ∀ x ∈ p0, x.block < W.heap.size := by obtain ⟨m, hm⟩ := h0; exact DataW.trod_lt m _ _ _ hm
  obtain ⟨A0, cap0, l0, rfl, w0⟩ := open_prs (hval 0 22 v0 rfl rfl) h0 (fun _ => rfl)
  have lt1 : ∀ x ∈ p1, x.block < W.heap.size := by obtain ⟨m, hm⟩ := h1; exact DataW.trod_lt m _ _ _ hm
  obtain ⟨a1, rfl⟩ := open_pr7 (hval 1 29 v1 rfl rfl) h1
  have lt2 : ∀ x ∈ p2, x.block < W.heap.size := by obtain ⟨m, hm⟩ := h2; exact DataW.trod_lt m _ _ _ hm
  obtain ⟨a2, rfl⟩ := open_ad (hval 2 25 v2 rfl rfl) h2
  clear hA0 hval0
  refine (leafmore_law A0 cap0 l0 a1 a2 W w0).mono fun e W' ⟨he, bel⟩ => ?_
  subst he
  exact ⟨_, rfl, _, _, _, [], _, [], hW', trodAll_mk1 (shut_bool Try.underlying4 _), (trodAll_cons_mk (Below.trod laidOut (by kernel_rfl) (of_decide_eq_true (by kernel_rfl)) h0 bel lt0) (trodAll_cons_mk (Below.trod laidOut (by kernel_rfl) (of_decide_eq_true (by kernel_rfl)) h1 bel lt1) (trodAll_cons_mk (Below.trod laidOut (by kernel_rfl) (of_decide_eq_true (by kernel_rfl)) h2 bel lt2) trodAll_mk0))), rfl, bel.frame _, fun h => by cases h⟩

theorem leafgenMore_holds : Rows.LeafgenMoreSaid :=
  OpenClaim.holds_of_wide 7 Try.f7 rfl rfl rfl rfl rfl rfl rfl ⟨rfl, rfl, rfl, rfl, rfl⟩ rfl rfl rfl rfl rfl (by kernel_rfl) Try.func7 (by kernel_rfl)
    (of_decide_eq_true (by kernel_rfl)) (by unfold Func.isWrapper; first | (rw [if_pos (by decide +kernel)]; kernel_rfl) | (rw [if_neg (by decide +kernel)]; exact ⟨rfl, rfl⟩))
    (fun os started H enc _ => leafgenMore_lifted os started H enc)

end Go.Proofs.Ytnmjofccedjkkaa
