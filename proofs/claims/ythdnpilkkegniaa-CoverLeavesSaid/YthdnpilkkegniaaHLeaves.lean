/-
  CoverLeaves: for every input the call returns true, and each argument reads afterwards as it read before. No condition.
-/
import Derived.Test.YthdnpilkkegniaaC1
import Derived.Test.YthdnpilkkegniaaH1
namespace Go.Proofs.Ythdnpilkkegniaa
open Go.RowKit Go.Maps
set_option maxRecDepth 100000


set_option maxHeartbeats 8000000 in
theorem covleaves_law (A : Option Addr) (cap : Nat) (ls : List Pr) (p : Pf) (w : World) (hr : RdQ w A ls) :
    Calls Try.prog 9 #[.slice A ls.length cap, .agg #[.int .u64 (u p.a.hi), .int .u64 (u p.a.lo), .bool p.a.v6, .int .i64 p.n]] w fun e w' => e = .returned (.bool true) ∧ Below w.heap.size w w' := by
  have HRD := Lib.hid hr
  clear hr
  by_cases hlen : 30 < ls.length
  · have t0 : decide ((30 : Int) < (ls.length : Int)) = true := by simp; omega
    go_enter Try.func9, Try.ntmps9
    go_wp2_with fail
    refine (awake8_any _).mono ?_
    rintro e w1 ⟨rfl, hw1⟩
    have b1 : Below w.heap.size w w1 := below_of (by go_grown) hw1
    go_wp2
    go_ret
    exact ⟨rfl, b1⟩
  · cases hp : psane p
    · have t0 : decide ((30 : Int) < (ls.length : Int)) = false := by simp; omega
      go_enter Try.func9, Try.ntmps9
      go_wp2_with fail
      refine (awake8_any _).mono ?_
      rintro e w1 ⟨rfl, hw1⟩
      have b1 : Below w.heap.size w w1 := below_of (by go_grown) hw1
      have Hp1 : Hid (PBox w1 (w.heap.size) p) := Lib.hid (PBox.keep (by exact ⟨by go_simp <;> rfl, by go_simp <;> rfl, by go_simp <;> rfl, by go_simp <;> rfl, by go_simp <;> rfl, by go_simp <;> rfl, by go_simp <;> rfl, by go_simp <;> rfl, by go_size⟩) hw1)
      have v1 := Hp1.out.2.2.2.2.2.2.2.2
      clear hw1
      have hp1 : (!psane p) = true := by simp [hp]
      have CS := Lib.hid (psane_any p)
      obtain ⟨pa, pb, pc, pg, -, -, -, -, pz⟩ := id Hp1.out
      go_wp2_with fail
      refine (CS.out _).mono ?_
      rintro e w2 ⟨rfl, hw⟩
      have ee := hw
      have Hp2 := Lib.hid (Hp1.out.keep ee)
      have b2 := b1.trans (ee.mono b1.size)
      have z2 := b2.size
      have y2 := ee.size
      clear hw ee Hp1 pa pb pc pg pz
      go_wp2
      go_ret
      exact ⟨rfl, b2⟩
    · have t0 : decide ((30 : Int) < (ls.length : Int)) = false := by simp; omega
      go_enter Try.func9, Try.ntmps9
      go_wp2_with fail
      refine (awake8_any _).mono ?_
      rintro e w1 ⟨rfl, hw1⟩
      have b1 : Below w.heap.size w w1 := below_of (by go_grown) hw1
      have Hp1 : Hid (PBox w1 (w.heap.size) p) := Lib.hid (PBox.keep (by exact ⟨by go_simp <;> rfl, by go_simp <;> rfl, by go_simp <;> rfl, by go_simp <;> rfl, by go_simp <;> rfl, by go_simp <;> rfl, by go_simp <;> rfl, by go_simp <;> rfl, by go_size⟩) hw1)
      have v1 := Hp1.out.2.2.2.2.2.2.2.2
      clear hw1
      have hp1 : (!psane p) = false := by simp [hp]
      have CS := Lib.hid (psane_any p)
      obtain ⟨pa, pb, pc, pg, -, -, -, -, pz⟩ := id Hp1.out
      go_wp2_with fail
      refine (CS.out _).mono ?_
      rintro e w2 ⟨rfl, hw⟩
      have ee := hw
      have Hp2 := Lib.hid (Hp1.out.keep ee)
      have b2 := b1.trans (ee.mono b1.size)
      have z2 := b2.size
      have y2 := ee.size
      clear hw ee Hp1 pa pb pc pg pz
      go_wp2_with fail
      refine (filled8_any A cap ls _ (HRD.out.keep b2 (Nat.le_refl _)) (by omega)).mono ?_
      rintro e w4 ⟨r, S, rfl, hR4, hm4, hS4, hb4⟩
      have Hp4 := Lib.hid (Hp2.out.keep hb4)
      have b4 := b2.trans (hb4.mono b2.size)
      have z2 := b2.size
      have z4 := b4.size
      have hs4 := hR4.srt
      have hL4 := fill_len ls ls.length (Nat.le_refl _)
      generalize (fillK ls ls.length).1 = L at hR4 hs4 hL4
      generalize (fillK ls ls.length).2 = M at hR4 hm4
      have HR4 := Lib.hid hR4
      have HSR := Lib.hid hs4
      clear hR4 hS4 hs4 hb4 HRD b2 t0 Hp2
      have hN := all_len (n := 30) (by omega) p (L := L)
      have ca := fun W (H : RibS W r S 200 200 L M) => pieces_any H p 500
      rw [show clampM 500 = 500 from by decide] at ca
      have hne : 0 < ((piecesL L p).take 500).length := by
        have := List.length_pos_iff.2 (blk_ne L p hp)
        rw [List.length_take, pieces_len]
        unfold allB
        rw [if_pos hp]
        omega
      have fM : ∀ i, (hi : i < ((piecesL L p).take 500).length) → _ := fun i hi => piece_leaf (mem_take hi)
      have hl5 : ((piecesL L p).take 500).length ≤ 500 := by rw [List.length_take]; omega
      generalize (piecesL L p).take 500 = l at ca hne fM hl5
      generalize decide ((allB L p).length ≤ 500) = bb at ca
      have t1 : ((l.length : Int) == 0) = false := by rw [beq_eq_false_iff_ne]; omega
      have cb := fun q W (H : RibS W r S 200 200 L M) => block_any H q
      have cl := fun q W (H : RibS W r S 200 200 L M) => leaf_any H q
      unfold OptPost at cl
      have FM := Lib.hid fM
      clear fM hm4 hL4 hN hp hp1 hne
      have CA := Lib.hid ca
      have CB := Lib.hid cb
      have CL := Lib.hid cl
      clear ca cb cl
      obtain ⟨pa, pb, pc, pg, -, -, -, -, pz⟩ := id Hp4.out
      go_wp2_with fail
      refine (CA.out _ HR4.out).mono ?_
      rintro e w5 hq
      obtain ⟨Am, cm, rfl, lem, nom, rdm, -, hw⟩ := hq.rd
      have Hm5 := Lib.hid rdm
      have HNm := Lib.hid nom
      clear hq rdm nom
      have ee := hw
      have Hp5 := Lib.hid (Hp4.out.keep ee)
      have HR5 := Lib.hid (HR4.out.keep ee)
      have b5 := b4.trans (ee.mono b4.size)
      have z5 := b5.size
      have y5 := ee.size
      clear hw ee HR4 Hp4 pa pb pc pg pz
      have HM0 := Lib.hid Hm5
      clear lem HNm
      go_wp2_with fail
      have B0 := Lib.hid b5
      have Z0 := Lib.hid z5
      go_loopw [9] (fun i wr => ∃ k : Nat, k ≤ l.length ∧ i = .int .i64 k ∧ Below w5.heap.size w5 wr) (fun i _ => l.length - (intOf i).toNat)
      case atStart => exact ⟨0, Nat.zero_le _, rfl, Below.refl _ _⟩
      case round =>
        obtain ⟨k, hk, rfl, hB⟩ := hrel
        by_cases hlt : k < l.length
        · have hlt' : (k : Int) < (l.length : Int) := by omega
          have hk0 : (0 : Int) ≤ (k : Int) := by omega
          have hk9 : (k : Int) + 1 ≤ 1000000000 := by omega
          obtain ⟨w6, rfl⟩ : ∃ w6, w6 = wr := ⟨_, rfl⟩
          have Hp6 := Lib.hid (Hp5.out.keep hB)
          have Hm6 := Lib.hid (Hm5.out.kept hB)
          have HR6 := Lib.hid (HR5.out.keep hB)
          have b6 := hB
          have z6 := hB.size
          have y6 := hB.size
          obtain ⟨mg, mo, hA, he⟩ := rd_ebox Hm6.out hlt
          subst hA
          have He6 := Lib.hid he
          clear he
          have fx := FM.out k hlt
          obtain ⟨x, hx⟩ : ∃ x, l[k] = x := ⟨_, rfl⟩
          rw [hx] at fx He6
          clear hx Hm6 HM0 Hm5 Hp5 HR5 hB HSR
          have cb1 := fun W (H : RibS W r S 200 200 L M) => CB.out x.p.a W H
          have cl1 := fun W (H : RibS W r S 200 200 L M) => CL.out x.p.a W H
          obtain ⟨f1, f2, f3⟩ := fx
          unfold hopO at f1
          rw [f2] at cl1
          obtain ⟨⟨yp, yv⟩, hy⟩ : ∃ y, (leafO L x.p.a).getD nilPr = y := ⟨_, rfl⟩
          rw [hy] at cl1 f1
          simp only at f1
          subst f1
          simp only at cl1
          obtain ⟨B, hB⟩ : ∃ B, wideP L x.p.a 0 = B := ⟨_, rfl⟩
          rw [hB] at cb1 f3
          have CB1 := Lib.hid cb1
          have CL1 := Lib.hid cl1
          clear cb1 cl1 hB hy f2 CB CL
          obtain ⟨e0, e1, e2, e3, e4, e5, ez⟩ := id He6.out
          go_wp2_with fail
          refine (CB1.out _ HR6.out).mono ?_
          rintro e w7 ⟨rfl, hw⟩
          have ee := hw
          have Hp7 := Lib.hid (Hp6.out.keep ee)
          have He7 := Lib.hid (He6.out.keep ee)
          have HR7 := Lib.hid (HR6.out.keep ee)
          have b7 := b6.trans (ee.mono b6.size)
          have z7 := b7.size
          have y7 := ee.size
          clear hw ee HR6 Hp6 He6 e0 e1 e2 e3 e4 e5 ez
          obtain ⟨e0, e1, e2, e3, e4, e5, ez⟩ := id He7.out
          have en0 : ¬ mg = w7.heap.size := by omega
          go_wp2_with fail
          refine (CL1.out _ (HR7.out.keep (by go_grown))).mono ?_
          rintro e w8 ⟨rfl, hw⟩
          have ee : Below w7.heap.size w7 w8 := below_of (by go_grown) hw
          have Hb8 : Hid (PBox w8 (w7.heap.size) B) := Lib.hid (PBox.keep (by exact ⟨by go_simp <;> rfl, by go_simp <;> rfl, by go_simp <;> rfl, by go_simp <;> rfl, by go_simp <;> rfl, by go_simp <;> rfl, by go_simp <;> rfl, by go_simp <;> rfl, by go_size⟩) hw)
          have Hp8 := Lib.hid (Hp7.out.keep ee)
          have He8 := Lib.hid (He7.out.keep ee)
          have HR8 := Lib.hid (HR7.out.keep ee)
          have b8 := b7.trans (ee.mono b7.size)
          have z8 := b8.size
          have y8 := ee.size
          clear hw ee HR7 Hp7 He7 e0 e1 e2 e3 e4 e5 ez en0
          go_wp2_with fail
          generalize hV : World.alloc _ _ = w9
          have ee : Below w8.heap.size w8 w9 := by subst hV; go_grown
          have Hx9 : Hid (QBox w9 (w8.heap.size) ⟨yp, x.h⟩) := Lib.hid (by subst hV; exact (by refine ⟨?_, ?_, ?_, ?_, ?_, ?_⟩ <;> first | (go_simp; done) | (go_simp <;> rfl) | go_size))
          have Hp9 := Lib.hid (Hp8.out.keep ee)
          have He9 := Lib.hid (He8.out.keep ee)
          have Hb9 := Lib.hid (Hb8.out.keep ee)
          have HR9 := Lib.hid (HR8.out.keep ee)
          have b9 := b8.trans (ee.mono b8.size)
          have z9 := b9.size
          have y9 := ee.size
          clear hV ee HR8 Hp8 He8 Hb8
          have cv := pcov_any B p
          by_cases hxB : x.p = B
          · have t2 : pfB (u x.p.a.hi) (u x.p.a.lo) x.p.a.v6 x.p.n (u B.a.hi) (u B.a.lo) B.a.v6 B.n = true := (pfEq_iff _ _).2 hxB
            clear hxB cv f3
            go_wp2_with fail
            try simp only [List.append_eq, List.cons_append, List.nil_append]
            obtain ⟨e0, e1, e2, e3, e4, e5, ez⟩ := id He9.out
            obtain ⟨ba, bb, bc, bg, -, -, -, -, bz⟩ := id Hb9.out
            obtain ⟨pa, pb, pc, pg, -, -, -, -, pz⟩ := id Hp9.out
            obtain ⟨x0, x1, x2, x3, x4, xz⟩ := id Hx9.out
            have Le0 := fun x : Later w9.heap.size w9 => (x.cell (p := ⟨mg, mo + k * 6, none⟩) ez).trans e0
            have Le1 := fun x : Later w9.heap.size w9 => (x.cell (p := ⟨mg, mo + k * 6 + 1, none⟩) ez).trans e1
            have Le2 := fun x : Later w9.heap.size w9 => (x.cell (p := ⟨mg, mo + k * 6 + 2, none⟩) ez).trans e2
            have Le3 := fun x : Later w9.heap.size w9 => (x.cell (p := ⟨mg, mo + k * 6 + 3, none⟩) ez).trans e3
            have Le4 := fun x : Later w9.heap.size w9 => (x.cell (p := ⟨mg, mo + k * 6 + 4, none⟩) ez).trans e4
            have Le5 := fun x : Later w9.heap.size w9 => (x.cell (p := ⟨mg, mo + k * 6 + 5, none⟩) ez).trans e5
            have Lba := fun x : Later w9.heap.size w9 => (x.cell bz).trans ba
            have Lbb := fun x : Later w9.heap.size w9 => (x.cell bz).trans bb
            have Lbc := fun x : Later w9.heap.size w9 => (x.cell bz).trans bc
            have Lbg := fun x : Later w9.heap.size w9 => (x.cell bz).trans bg
            have Lpa := fun x : Later w9.heap.size w9 => (x.cell pz).trans pa
            have Lpb := fun x : Later w9.heap.size w9 => (x.cell pz).trans pb
            have Lpc := fun x : Later w9.heap.size w9 => (x.cell pz).trans pc
            have Lpg := fun x : Later w9.heap.size w9 => (x.cell pz).trans pg
            have Lx0 := fun x : Later w9.heap.size w9 => (x.cell xz).trans x0
            have Lx1 := fun x : Later w9.heap.size w9 => (x.cell xz).trans x1
            have Lx2 := fun x : Later w9.heap.size w9 => (x.cell xz).trans x2
            have Lx3 := fun x : Later w9.heap.size w9 => (x.cell xz).trans x3
            have Lx4 := fun x : Later w9.heap.size w9 => (x.cell xz).trans x4
            refine region_later w9.heap.size (by kernel_rfl) (by kernel_rfl) ?_
            repeat (go_big_quiet_step (first | (go_at_call 45; exact later_of (Nat.le_refl _) (CS.out _))))
            refine wpQuiet_nil ?_
            intro x
            have ee := x.below
            generalize x.at = w10 at ee ⊢
            clear x Le0 Le1 Le2 Le3 Le4 Le5 Lba Lbb Lbc Lbg Lpa Lpb Lpc Lpg Lx0 Lx1 Lx2 Lx3 Lx4
            have Hp10 := Lib.hid (Hp9.out.keep ee)
            have He10 := Lib.hid (He9.out.keep ee)
            have Hb10 := Lib.hid (Hb9.out.keep ee)
            have Hx10 := Lib.hid (Hx9.out.kept ee)
            have HR10 := Lib.hid (HR9.out.keep ee)
            have b10 := b9.trans (ee.mono b9.size)
            have z10 := b10.size
            have y10 := ee.size
            clear ee HR9 Hp9 He9 Hb9 Hx9 e0 e1 e2 e3 e4 e5 ez ba bb bc bg bz pa pb pc pg pz x0 x1 x2 x3 x4 xz
            go_wp2
            go_roundw
            case rel => exact ⟨k + 1, by omega, by go_num, b10⟩
            case measure => simp [intOf]; omega
          · have t2 : pfB (u x.p.a.hi) (u x.p.a.lo) x.p.a.v6 x.p.n (u B.a.hi) (u B.a.lo) B.a.v6 B.n = false := by
              cases h : pfB (u x.p.a.hi) (u x.p.a.lo) x.p.a.v6 x.p.n (u B.a.hi) (u B.a.lo) B.a.v6 B.n
              · rfl
              · exact absurd ((pfEq_iff _ _).1 h) hxB
            obtain ⟨f4, f5⟩ : x.p = p ∧ pcov B p = true := f3.resolve_left hxB
            have t3 : pfB (u x.p.a.hi) (u x.p.a.lo) x.p.a.v6 x.p.n (u p.a.hi) (u p.a.lo) p.a.v6 p.n = true := (pfEq_iff _ _).2 f4
            rw [f5] at cv
            have CV := Lib.hid cv
            clear cv f3 f4 f5 hxB
            go_wp2_with fail
            try simp only [List.append_eq, List.cons_append, List.nil_append]
            obtain ⟨e0, e1, e2, e3, e4, e5, ez⟩ := id He9.out
            obtain ⟨ba, bb, bc, bg, -, -, -, -, bz⟩ := id Hb9.out
            obtain ⟨pa, pb, pc, pg, -, -, -, -, pz⟩ := id Hp9.out
            obtain ⟨x0, x1, x2, x3, x4, xz⟩ := id Hx9.out
            have Le0 := fun x : Later w9.heap.size w9 => (x.cell (p := ⟨mg, mo + k * 6, none⟩) ez).trans e0
            have Le1 := fun x : Later w9.heap.size w9 => (x.cell (p := ⟨mg, mo + k * 6 + 1, none⟩) ez).trans e1
            have Le2 := fun x : Later w9.heap.size w9 => (x.cell (p := ⟨mg, mo + k * 6 + 2, none⟩) ez).trans e2
            have Le3 := fun x : Later w9.heap.size w9 => (x.cell (p := ⟨mg, mo + k * 6 + 3, none⟩) ez).trans e3
            have Le4 := fun x : Later w9.heap.size w9 => (x.cell (p := ⟨mg, mo + k * 6 + 4, none⟩) ez).trans e4
            have Le5 := fun x : Later w9.heap.size w9 => (x.cell (p := ⟨mg, mo + k * 6 + 5, none⟩) ez).trans e5
            have Lba := fun x : Later w9.heap.size w9 => (x.cell bz).trans ba
            have Lbb := fun x : Later w9.heap.size w9 => (x.cell bz).trans bb
            have Lbc := fun x : Later w9.heap.size w9 => (x.cell bz).trans bc
            have Lbg := fun x : Later w9.heap.size w9 => (x.cell bz).trans bg
            have Lpa := fun x : Later w9.heap.size w9 => (x.cell pz).trans pa
            have Lpb := fun x : Later w9.heap.size w9 => (x.cell pz).trans pb
            have Lpc := fun x : Later w9.heap.size w9 => (x.cell pz).trans pc
            have Lpg := fun x : Later w9.heap.size w9 => (x.cell pz).trans pg
            have Lx0 := fun x : Later w9.heap.size w9 => (x.cell xz).trans x0
            have Lx1 := fun x : Later w9.heap.size w9 => (x.cell xz).trans x1
            have Lx2 := fun x : Later w9.heap.size w9 => (x.cell xz).trans x2
            have Lx3 := fun x : Later w9.heap.size w9 => (x.cell xz).trans x3
            have Lx4 := fun x : Later w9.heap.size w9 => (x.cell xz).trans x4
            refine region_later w9.heap.size (by kernel_rfl) (by kernel_rfl) ?_
            repeat (go_big_quiet_step (first | (go_at_call 45; exact later_of (Nat.le_refl _) (CV.out _))))
            refine wpQuiet_nil ?_
            intro x
            have ee := x.below
            generalize x.at = w10 at ee ⊢
            clear x Le0 Le1 Le2 Le3 Le4 Le5 Lba Lbb Lbc Lbg Lpa Lpb Lpc Lpg Lx0 Lx1 Lx2 Lx3 Lx4
            have Hp10 := Lib.hid (Hp9.out.keep ee)
            have He10 := Lib.hid (He9.out.keep ee)
            have Hb10 := Lib.hid (Hb9.out.keep ee)
            have Hx10 := Lib.hid (Hx9.out.kept ee)
            have HR10 := Lib.hid (HR9.out.keep ee)
            have b10 := b9.trans (ee.mono b9.size)
            have z10 := b10.size
            have y10 := ee.size
            clear ee HR9 Hp9 He9 Hb9 Hx9 e0 e1 e2 e3 e4 e5 ez ba bb bc bg bz pa pb pc pg pz x0 x1 x2 x3 x4 xz
            go_wp2
            go_roundw
            case rel => exact ⟨k + 1, by omega, by go_num, b10⟩
            case measure => simp [intOf]; omega
        · obtain rfl : k = l.length := by omega
          have hlt' : ¬ (l.length : Int) < (l.length : Int) := by omega
          go_wp2
          go_ret
          exact ⟨rfl, B0.out.trans (hB.mono Z0.out)⟩

end Go.Proofs.Ythdnpilkkegniaa

namespace Go.Proofs.Ythdnpilkkegniaa
open Go.ChangeShapes Go.WideShapes Go.ChangeAt Go.RowKit

set_option maxRecDepth 100000 in
theorem coverLeaves_lifted (os : Os) (started : os.Started) (H : Type) (enc : TypeId × Value → H) :
    ReturnsInHanded {} Try.checked os 9 .any (Rows.coverLeavesSpec.pre6 enc Try.prog Try.f9 Rows.coverLeavesRow.domain false) (Rows.coverLeavesSpec.post enc Try.prog Try.f9 false true false false) := by
  refine returnsInHanded_of_change (C := Try.checked) own started (by kernel_rfl) Try.func9
    (ChangeSpec.witness6 (enc := enc) (C := Try.checked) false ⟨#[], #[.slice none 0 0, .agg #[.int .u64 0, .int .u64 0, .bool false, .int .i64 0]], []⟩ 8 (by kernel_rfl) (by kernel_rfl) (by kernel_rfl) (by kernel_rfl)) ?_
  intro W base args ds gs before hval0 hW hcnd _
  have hval : ∀ (j : Nat) t v, Try.f9.params[j]? = some t → args[j]? = some v → Value.okWide Try.prog W .any base t v := hval0
  have hW' := hW
  obtain ⟨p, q, hA0, hV, rfl, hfz, hnd⟩ := hW
  have hA : DataW.TrodAll enc Try.prog W 0 (fun _ => true) true Try.f9.params.toList args.toList ds p := hA0
  rw [Try.params9] at hA hval
  obtain ⟨v0, vs0, d0, ds0, p0, q0, hargs, rfl, rfl, h0, r0⟩ := trodAll_cons hA
  obtain ⟨v1, vs1, d1, ds1, p1, q1, rfl, rfl, rfl, h1, r1⟩ := trodAll_cons r0
  obtain ⟨rfl, rfl, rfl⟩ := trodAll_nil r1
  obtain rfl : args = #[v0, v1] := by cases args; simp_all
  obtain ⟨rfl, rfl⟩ := trodVars_none hV
  have lt0 : ∀ x ∈ p0, x.block < W.heap.size := by obtain ⟨m, hm⟩ := h0; exact DataW.trod_lt m _ _ _ hm
  obtain ⟨A0, cap0, l0, rfl, w0⟩ := open_prs (hval 0 50 v0 rfl rfl) h0 (fun _ => rfl)
  have lt1 : ∀ x ∈ p1, x.block < W.heap.size := by obtain ⟨m, hm⟩ := h1; exact DataW.trod_lt m _ _ _ hm
  obtain ⟨a1, rfl, w1⟩ := open_pf (hval 1 27 v1 rfl rfl) h1
  clear hA0 hval0
  refine (covleaves_law A0 cap0 l0 a1 W w0).mono fun e W' ⟨he, bel⟩ => ?_
  subst he
  exact ⟨_, rfl, _, _, _, [], _, [], hW', trodAll_mk1 (shut_bool Try.underlying4 _), (trodAll_cons_mk (Below.trod laidOut (by kernel_rfl) (of_decide_eq_true (by kernel_rfl)) h0 bel lt0) (trodAll_cons_mk (Below.trod laidOut (by kernel_rfl) (of_decide_eq_true (by kernel_rfl)) h1 bel lt1) trodAll_mk0)), rfl, bel.frame _, fun h => by cases h⟩

theorem coverLeaves_holds : Rows.CoverLeavesSaid :=
  OpenClaim.holds_of_wide 9 Try.f9 rfl rfl rfl rfl rfl rfl rfl ⟨rfl, rfl, rfl, rfl, rfl⟩ rfl rfl rfl rfl rfl (by kernel_rfl) Try.func9 (by kernel_rfl)
    (of_decide_eq_true (by kernel_rfl)) (by unfold Func.isWrapper; first | (rw [if_pos (by decide +kernel)]; kernel_rfl) | (rw [if_neg (by decide +kernel)]; exact ⟨rfl, rfl⟩))
    (fun os started H enc _ => coverLeaves_lifted os started H enc)

end Go.Proofs.Ythdnpilkkegniaa
