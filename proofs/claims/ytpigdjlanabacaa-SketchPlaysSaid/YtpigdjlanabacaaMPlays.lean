/-
  SketchPlays: for every input the call returns true, and each argument reads afterwards as it read before. No condition.
-/
import Derived.Test.YtpigdjlanabacaaRow
import Derived.Test.YtpigdjlanabacaaRk
import Derived.Deep.Slices
import Derived.Test.YtpigdjlanabacaaRowP
import Derived.Test.YtpigdjlanabacaaX2
import Derived.Test.YtpigdjlanabacaaX3
import Derived.Deep.CutBlock
import Derived.Deep.DeepCutAuto
namespace Go.Proofs.Ytpigdjlanabacaa
set_option maxRecDepth 100000
open Go.ChangeShapes Go.WideShapes Go.ChangeAt Go.RowKit Go.Joins Go.Deep

theorem add_plainK (g off j : Nat) : (⟨g, off, none⟩ : Addr).add j = ⟨g, off + j, none⟩ := by unfold Addr.add; split <;> simp_all
theorem Kd.opened {α H : Type} (K : Kd α) (z : α) {enc : TypeId × Value → H} {E SL : TypeId} (hu : Try.prog.underlying SL = some (.slice E)) (hk : Try.prog.cellsOf E = K.k) {W : World} {base b0 : Nat} {spare : Nat → Bool} {held : Bool} {r : Reach} {v : Value} {d : DataW H} {p : List MemPlace}
    (dec : ∀ {n : Nat} {cs : List Value} {x : DataW H × List MemPlace}, cs.length = K.k → DataW.trod enc Try.prog W base spare held n E cs = some x → ∃ y : α, cs = K.enc y)
    (hv : Value.okWide Try.prog W r b0 SL v) (h : DataW.Trod enc Try.prog W base spare held SL v d p) :
    ∃ A c rs, v = .slice A (List.length rs) c ∧ K.Rd W A rs := by
  obtain ⟨A, len, cap, rfl⟩ := okWide_slice hu hv
  obtain ⟨fuel, hf⟩ := h
  rcases open_slice hu hf with ⟨hcs, _⟩ | ⟨a, l, c, m, n, D, Pl, hcs, _, hl, hm, hmm, _, hi⟩
  · simp [Value.cells] at hcs
    obtain ⟨rfl, rfl, rfl⟩ := hcs
    exact ⟨none, 0, [], rfl, fun h => absurd rfl h⟩
  · simp [Value.cells] at hcs
    obtain ⟨rfl, rfl, rfl⟩ := hcs
    have hlm : len ≤ m := by rw [hmm]; split <;> omega
    have key : ∀ i, i < len → ∃ y : α, ∀ j x, (K.enc y)[j]? = some x → W.cell? (a.add (i * K.k + j)) = some x := by
      intro i hlt
      obtain ⟨cs', hc, ht⟩ := hi i (by omega)
      rw [hk] at hc
      obtain ⟨_, hcl, hat⟩ := World.cells?_some hc
      obtain ⟨y, rfl⟩ := dec hcl ht
      refine ⟨y, fun j x hx => ?_⟩
      have hj : j < K.k := by
        rcases Nat.lt_or_ge j K.k with h1 | h1
        · exact h1
        · rw [List.getElem?_eq_none (by rw [K.len]; omega)] at hx; cases hx
      rw [← Go.Deep.add_add, hat j hj, hx]
    have hch : ∃ f : Nat → α, ∀ i, i < len → ∀ j x, (K.enc (f i))[j]? = some x → W.cell? (a.add (i * K.k + j)) = some x :=
      ⟨fun i => if h : i < len then (key i h).choose else z, fun i hlt j x hx => (key i hlt).choose_spec j x (by simpa [hlt] using hx)⟩
    obtain ⟨f, hf2⟩ := hch
    refine ⟨some a, cap, (List.range len).map f, by simp, fun hne => ?_⟩
    have hpos : 0 < len := by
      rcases Nat.eq_zero_or_pos len with h0 | h0
      · rw [h0] at hne; simp at hne
      · exact h0
    have hc0 : ∃ x, (K.enc (f 0))[0]? = some x := ⟨_, List.getElem?_eq_getElem (by rw [K.len]; exact K.pos)⟩
    obtain ⟨x0, hx0⟩ := hc0
    obtain ⟨g, off, spot⟩ := a
    have hspot : spot = none := by
      have := hf2 0 hpos 0 _ hx0
      rw [show 0 * K.k + 0 = 0 from by omega] at this
      simpa [Addr.add] using World.cell?_spot this
    subst hspot
    have hcell : ∀ i, i < len → ∀ j x, (K.enc (f i))[j]? = some x → W.cell? ⟨g, off + i * K.k + j, none⟩ = some x := fun i hlt j x hx => by
      have := hf2 i hlt j x hx
      rw [add_plainK, ← Nat.add_assoc] at this
      exact this
    refine ⟨g, off, rfl, World.block_lt_of_cell? W ⟨g, off + 0 * K.k + 0, none⟩ (hcell 0 hpos 0 _ hx0), fun i hlt j hj => ?_⟩
    have hlt' : i < len := by simpa using hlt
    have e : ((List.range len).map f)[i] = f i := by simp
    rw [e, List.getElem?_eq_getElem (by rw [K.len]; exact hj)]
    exact hcell i hlt' j _ (List.getElem?_eq_getElem (by rw [K.len]; exact hj))

end Go.Proofs.Ytpigdjlanabacaa

namespace Go.Proofs.Ytpigdjlanabacaa
set_option maxRecDepth 100000
open Go.ChangeShapes Go.WideShapes Go.ChangeAt Go.RowKit Go.Joins Go.Deep

theorem pfk_cells {H : Type} {enc : TypeId × Value → H} {W : World} {base n : Nat} {spare : Nat → Bool} {held : Bool} {cs : List Value} {x : DataW H × List MemPlace}
    (hl : cs.length = 4) (h : DataW.trod enc Try.prog W base spare held n 27 cs = some x) : ∃ r : Pf, cs = KPf.enc r := by
  match cs, hl with
  | [c0, c1, c2, c3], _ =>
  have k1 : Try.prog.cellsOf 3 = 1 := by kernel_rfl
  have k4 : Try.prog.cellsOf 25 = 3 := by kernel_rfl
  obtain ⟨y2, y3, n2, _, _, h2, h3⟩ := trod_struct2 Try.underlying27 h
  have g2 : DataW.trod enc Try.prog W base spare held n2 25 [c0, c1, c2] = some y2 := by simpa [k4] using h2
  have g3 : DataW.trod enc Try.prog W base spare held n2 3 [c3] = some y3 := by simpa [k4, k1] using h3
  obtain ⟨z0, z1, z2, m, hz, _, i0, i1, i2⟩ := trod_struct3 Try.underlying25 g2
  have k2 : Try.prog.cellsOf 23 = 1 := by kernel_rfl
  have k3 : Try.prog.cellsOf 4 = 1 := by kernel_rfl
  have j0 : DataW.trod enc Try.prog W base spare held m 23 [c0] = some z0 := by simpa [k2] using i0
  have j1 : DataW.trod enc Try.prog W base spare held m 23 [c1] = some z1 := by simpa [k2] using i1
  have j2 : DataW.trod enc Try.prog W base spare held m 4 [c2] = some z2 := by simpa [k3] using i2
  obtain ⟨x0, e0, _, w0⟩ := DataW.trod_int Try.underlying23 j0
  obtain ⟨x1, e1, _, w1⟩ := DataW.trod_int Try.underlying23 j1
  obtain ⟨x2, e2, _⟩ := DataW.trod_bool Try.underlying4 j2
  obtain ⟨x3, e3, _, w3⟩ := DataW.trod_int Try.underlying3 g3
  obtain ⟨lo0, hi0⟩ := bounds_u64 w0
  obtain ⟨lo1, hi1⟩ := bounds_u64 w1
  obtain ⟨a0, rfl⟩ := u_of x0 lo0 (by omega)
  obtain ⟨a1, rfl⟩ := u_of x1 lo1 (by omega)
  simp at e0 e1 e2 e3
  subst e0 e1 e2 e3
  exact ⟨⟨⟨a0, a1, x2⟩, x3⟩, rfl⟩
theorem open_pfk {H : Type} {enc : TypeId × Value → H} {W : World} {base b0 : Nat} {spare : Nat → Bool} {held : Bool} {r : Reach} {v : Value} {d : DataW H} {p : List MemPlace}
    (hv : Value.okWide Try.prog W r b0 51 v) (h : DataW.Trod enc Try.prog W base spare held 51 v d p) (_ : ∀ b, spare b = true) :
    ∃ A c rs, v = .slice A (List.length rs) c ∧ KPf.Rd W A rs :=
  KPf.opened nilP Try.underlying51 (by kernel_rfl) (fun hl h => pfk_cells hl h) hv h
theorem ac11_cells {H : Type} {enc : TypeId × Value → H} {W : World} {base n : Nat} {spare : Nat → Bool} {held : Bool} {cs : List Value} {x : DataW H × List MemPlace}
    (hl : cs.length = 5) (h : DataW.trod enc Try.prog W base spare held n 36 cs = some x) : ∃ r : Ac11, cs = KA11.enc r := by
  match cs, hl with
  | [c, c0, c1, c2, c3], _ =>
  obtain ⟨y, y0, n, hx, _, h, h0⟩ := trod_struct2 Try.underlying36 h
  have k0 : Try.prog.cellsOf 27 = 4 := by kernel_rfl
  have k3 : Try.prog.cellsOf 4 = 1 := by kernel_rfl
  have g : DataW.trod enc Try.prog W base spare held n 4 [c] = some y := by simpa [k3] using h
  have g0 : DataW.trod enc Try.prog W base spare held n 27 [c0, c1, c2, c3] = some y0 := by simpa [k0, k3] using h0
  obtain ⟨x, e, _⟩ := DataW.trod_bool Try.underlying4 g
  obtain ⟨r, hr⟩ := pfk_cells rfl g0
  simp at e
  subst e
  simp only [KPf, pfE, List.cons.injEq, and_true] at hr
  obtain ⟨rfl, rfl, rfl, rfl⟩ := hr
  exact ⟨⟨x, r⟩, rfl⟩
theorem open_acs11 {H : Type} {enc : TypeId × Value → H} {W : World} {base b0 : Nat} {spare : Nat → Bool} {held : Bool} {r : Reach} {v : Value} {d : DataW H} {p : List MemPlace}
    (hv : Value.okWide Try.prog W r b0 22 v) (h : DataW.Trod enc Try.prog W base spare held 22 v d p) (_ : ∀ b, spare b = true) :
    ∃ A c rs, v = .slice A (List.length rs) c ∧ KA11.Rd W A rs :=
  KA11.opened ⟨false, nilP⟩ Try.underlying22 (by kernel_rfl) (fun hl h => ac11_cells hl h) hv h

end Go.Proofs.Ytpigdjlanabacaa

namespace Go.Proofs.Ytpigdjlanabacaa
open Go.RowKit
set_option maxRecDepth 100000

def StepK (w4 : World) (q B0 : Nat) (s2 : Sk) (y : Nat) (wx : World) : Prop := ∃ (A' : Option Addr) (c' : Nat), wx.heap[y]? = some (.cells #[.slice A' s2.n c'] 33 (0, 0)) ∧ w4.heap.size ≤ y ∧ RX q B0 wx A' s2.rows ∧ Below w4.heap.size w4 wx
set_option maxHeartbeats 8000000 in
theorem play11_law (rows width : Int) (A : Option Addr) (cap : Nat) (ls : List Ac11) (p : Pf) (row : Int) (w : World) (hr : KA11.Rd w A ls) :
    Calls Try.prog 3 #[.int .i64 rows, .int .i64 width, .slice A ls.length cap, .agg #[.int .u64 (u p.a.hi), .int .u64 (u p.a.lo), .bool p.a.v6, .int .i64 p.n], .int .i64 row] w fun e w' => e = .returned (.bool true) ∧ Below w.heap.size w w' := by
  have HR := Lib.hid hr
  clear hr
  go_enter Try.func3, Try.ntmps3
  go_wp2_with fail
  refine (awake11_any _).mono ?_
  rintro e w1 ⟨rfl, b1⟩
  have HP := Lib.hid (PB.made w p b1)
  have b2 := below_of (w := w) (by go_grown) b1
  have HB := Lib.hid b2
  have z1 := b2.size
  have zp1 : w.heap.size < w1.heap.size := Nat.lt_of_lt_of_le (by simp) b1.size
  clear b1 b2
  by_cases hlen : 80 < ls.length
  · have t0 : decide (80 < (ls.length : Int)) = true := by simp; omega
    go_wp2
    go_ret
    exact ⟨rfl, HB.out⟩
  · have t0 : decide (80 < (ls.length : Int)) = false := by simp; omega
    generalize hbp : w.heap.size = bp at HP zp1
    rw [hbp] at z1 HB
    go_wp2_with fail
    refine (sknew_any rows width w1).mono ?_
    rintro e w2 ⟨t, S, rfl, h2, b2, g2⟩
    have H2 := Lib.hid h2
    have HB2 := Lib.hid b2
    have HG2 := Lib.hid g2
    clear h2 b2 g2
    go_wp2_with fail
    refine (rknew_any rows width w2).mono ?_
    rintro e w3 ⟨A2, c2, rfl, r3, b3⟩
    have zz2 := HB2.out.size
    have zz3 := b3.size
    have hP : PlK w1 w2.heap.size t w3.heap.size bp S A2 c2 (Sk.new rows width) (Sk.new rows width) p (w3.alloc (.cells #[.slice A2 (Sk.new rows width).n c2] 33 (0, 0))) :=
      ⟨(H2.out.keep b3).keep (by go_grown), fun b hb => ⟨HG2.out b hb, H2.out.lt b hb⟩, hp_new rfl, zz3, RX.first r3 _, ((HP.out.keep HB2.out).keep (b3.mono (Nat.le_refl _))).keep (by go_grown), zp1, zz2, (HB2.out.trans (b3.mono zz2)).alloc (by omega) _⟩
    have HPl := Lib.hid hP
    clear hP r3 b3 H2 HG2 HB2
    go_wp2_with fail
    generalize w3.heap.size = q at HPl zz3 ⊢
    generalize w2.heap.size = B0 at HPl zz2 zz3
    generalize Sk.new rows width = s0 at HPl
    clear zz2 zz3
    go_loopw [14] (fun n wr => ∃ (k : Nat) (A2 : Option Addr) (c : Nat) (s : Sk), k ≤ ls.length ∧ n = .int .i64 k ∧ PlK w1 B0 t q bp S A2 c s s p wr) (fun n _ => ls.length - (intOf n).toNat)
    case atStart => exact ⟨0, A2, c2, s0, by omega, rfl, HPl.out⟩
    case round =>
      obtain ⟨k, A2, c, s, hk, rfl, hb⟩ := hrel
      have HK := Lib.hid hb
      clear hb HPl
      by_cases hkl : k < ls.length
      · have t2 : decide ((k : Int) < (ls.length : Int)) = true := by simp; omega
        have k2 : (k : Int) < (ls.length : Int) := by omega
        obtain ⟨g, off, rfl, hc⟩ := ka11_at HR.out hkl
        generalize ls[k] = a at hc
        rw [hbp] at hc
        have D := Lib.hid hc
        obtain ⟨dc, r⟩ := a
        obtain ⟨zg, c0, c1, c2, c3, c4⟩ := hc wr (HB.out.trans (HK.out.bl.mono z1))
        have zq := lt_of_block HK.out.bx
        have u0 : wr.cell? ⟨q, 0, none⟩ = some (.slice A2 s.n c) := by rw [cell_row HK.out.bx]; rfl
        clear hc
        cases dc
        · have hct := skadd_same HK.out.sk r
          have HC4 := Lib.hid hct
          clear hct
          go_wp2_with fail
          refine HC4.out.mono ?_
          rintro e w4 ⟨rfl, h4, f4⟩
          have HM := Lib.hid (HK.out.mid h4 f4)
          have HB4 := Lib.hid (HB.out.trans (HM.out.bl.mono z1))
          clear h4 f4 HC4 zg c0 c1 c2 c3 c4 zq u0
          obtain ⟨zg, c0, c1, c2, c3, c4⟩ := D.out w4 HB4.out
          have zq := lt_of_block HM.out.bx
          have u0 : w4.cell? ⟨q, 0, none⟩ = some (.slice A2 s.n c) := by rw [cell_row HM.out.bx]; rfl
          have CT := Lib.hid (fun W (hb : Below w4.heap.size w4 W) => radd_any W A2 c s r (HM.out.rb.rr.keep hb) HK.out.sk.ok)
          generalize s.does r = ok at CT ⊢
          go_upto_region 13 with fail
          go_cut [16, 17] (fun b f wx => f = .bool ok ∧ ∃ y, b = .pointer (some ⟨y, 0, none⟩) ∧ StepK w4 q B0 (s.add r) y wx)
          case first =>
            go_region_held3 (fun w' => w'.cell? ⟨q, 0, none⟩ = some (.slice A2 s.n c) ∧ w'.cell? ⟨g, off + k * 5 + 1, none⟩ = some (.int .u64 (u r.a.hi)) ∧ w'.cell? ⟨g, off + k * 5 + 2, none⟩ = some (.int .u64 (u r.a.lo)) ∧ w'.cell? ⟨g, off + k * 5 + 3, none⟩ = some (.bool r.a.v6) ∧ w'.cell? ⟨g, off + k * 5 + 4, none⟩ = some (.int .i64 r.n) ∧ Below w4.heap.size w4 w')
              (first | with_reducible exact keepK hk7 zq zg u0 c1 c2 c3 c4 | (refine keepK ?_ zq zg u0 c1 c2 c3 c4; go_grown))
              (first | (go_at_call 14; refine (CT.out _ (by go_grown)).mono ?_; rintro e w7 ⟨A', c', rfl, hx7, hR7, hw7⟩; have hk7 := below_of (w := w4) (by go_grown) hw7; have zk7 := hk7.size; (try (have hy7 := (hw7.block w4.heap.size (by simp)).trans (hp_new rfl); have v0 : w7.cell? ⟨w4.heap.size, 0, none⟩ = some (.slice none 0 0) := (by rw [cell_row hy7]; rfl); have vf0 := frozen_of_row _ _ 0 _ _ hy7))))
            · go_wp2_with fail
              go_meet
              case rel =>
                have hx : Below w4.heap.size w4 (w7.alloc (.cells #[.slice A' (s.add r).n c'] 33)) := hk7.alloc zk7 _
                exact ⟨rfl, w7.heap.size, rfl, A', c', hp_new rfl, zk7, HM.out.step ((Below.refl _ _).drew) hx7 hx (by simp) (fun j _ hj => Below.heap_alloc _ _ _ hj), hx⟩
            · go_wp2_with fail
              go_meet
              case rel =>
                have hx : Below w4.heap.size w4 (w7.setCell ⟨w4.heap.size, 0, none⟩ (.slice A' (s.add r).n c')) := hk7.setCell (p := ⟨w4.heap.size, 0, none⟩) (Nat.le_refl _) _
                refine ⟨rfl, w4.heap.size, rfl, A', c', one_setCell hy7, Nat.le_refl _, HM.out.step ?_ hx7 hx (by simp [World.setCell]) (fun j hj _ => Below.heap_setCell _ _ _ _ (fun e => ?_)), hx⟩
                · exact ((Below.refl _ _).alloc (Nat.le_refl _) _).drew
                · simp at hj
                  simp only at e
                  omega
          case rest =>
            obtain ⟨rfl, y, rfl, A', c', hy, hyz, hrx, hbc⟩ := hcut
            have HF := Lib.hid (HM.out.fin (c' := c') hbc hrx)
            have v0 : wc.cell? ⟨y, 0, none⟩ = some (.slice A' (s.add r).n c') := by rw [cell_row hy]; rfl
            have hbq := (HM.out.keep hbc).bx
            have u1 : wc.cell? ⟨q, 0, none⟩ = some (.slice A2 s.n c) := by rw [cell_row hbq]; rfl
            have uf1 := frozen_of_row _ _ 0 _ _ hbq
            have zq1 := lt_of_block hbq
            have zy1 := lt_of_block hy
            have hne : ¬ y = q := by omega
            clear hy hyz hrx hbc hbq zg c0 c1 c2 c3 c4 zq u0 CT HK
            go_upto_region 15 with fail
            generalize hX : World.setCell _ _ _ = X at HF ⊢
            generalize s.add r = s2 at HF ⊢
            clear v0 u1 uf1 zq1 zy1 hX hne HM HB4
            obtain ⟨W, hWx⟩ : ∃ W, W = X := ⟨_, rfl⟩
            subst hWx
            have HBw := Lib.hid (HB.out.trans (HF.out.bl.mono z1))
            obtain ⟨zg, c0, c1, c2, c3, c4⟩ := D.out W HBw.out
            obtain ⟨zp, p0, p1, p2, p3⟩ := HF.out.pb.at
            have zq := lt_of_block HF.out.bx
            have u0 : W.cell? ⟨q, 0, none⟩ = some (.slice A' (s2).n c') := by rw [cell_row HF.out.bx]; rfl
            have CO := Lib.hid (fun V (hb : Below W.heap.size W V) => skcount_any V t S s2 (HF.out.sk.keep hb) p)
            have CO2 := Lib.hid (fun V (hb : Below W.heap.size W V) => skcount_any V t S s2 (HF.out.sk.keep hb) r)
            have RO := Lib.hid (fun V (hb : Below W.heap.size W V) => rcount_any V A' c' s2 p (HF.out.rb.rr.keep hb) HF.out.sk.ok)
            have RO2 := Lib.hid (fun V (hb : Below W.heap.size W V) => rcount_any V A' c' s2 r (HF.out.rb.rr.keep hb) HF.out.sk.ok)
            have RR9 := Lib.hid (fun V (hb : Below W.heap.size W V) => skrows_n (HF.out.sk.keep hb))
            have n9 := HF.out.sk.ok.n
            have m9 := HF.out.sk.ok.m
            have RS := Lib.hid (fun V A9 c9 (hb : Below W.heap.size W V) (h9 : RR KN V A9 (s2).rows) => rsame_any V A9 A' c9 c' s2 h9 (HF.out.rb.rr.keep hb) (by omega) (by omega))
            generalize (s2).cnt p = y at CO RO
            generalize (s2).cnt r = y2 at CO2 RO2
            clear n9 m9
            go_wp2_with fail
            go_region_held3 (fun w' => w'.cell? ⟨q, 0, none⟩ = some (.slice A' (s2).n c') ∧ w'.cell? ⟨g, off + k * 5 + 1, none⟩ = some (.int .u64 (u r.a.hi)) ∧ w'.cell? ⟨g, off + k * 5 + 2, none⟩ = some (.int .u64 (u r.a.lo)) ∧ w'.cell? ⟨g, off + k * 5 + 3, none⟩ = some (.bool r.a.v6) ∧ w'.cell? ⟨g, off + k * 5 + 4, none⟩ = some (.int .i64 r.n) ∧ w'.cell? ⟨bp, 0, none⟩ = some (.int .u64 (u p.a.hi)) ∧ w'.cell? ⟨bp, 1, none⟩ = some (.int .u64 (u p.a.lo)) ∧ w'.cell? ⟨bp, 2, none⟩ = some (.bool p.a.v6) ∧ w'.cell? ⟨bp, 3, none⟩ = some (.int .i64 p.n) ∧ Below W.heap.size W w')
              (first | with_reducible exact keepKP hkf zq zg zp u0 c1 c2 c3 c4 p0 p1 p2 p3 | with_reducible exact keepKP hke zq zg zp u0 c1 c2 c3 c4 p0 p1 p2 p3 | with_reducible exact keepKP hkd zq zg zp u0 c1 c2 c3 c4 p0 p1 p2 p3 | with_reducible exact keepKP hkc zq zg zp u0 c1 c2 c3 c4 p0 p1 p2 p3 | with_reducible exact keepKP hkb zq zg zp u0 c1 c2 c3 c4 p0 p1 p2 p3 | with_reducible exact keepKP hka zq zg zp u0 c1 c2 c3 c4 p0 p1 p2 p3 | (refine keepKP ?_ zq zg zp u0 c1 c2 c3 c4 p0 p1 p2 p3; go_grown))
              (first
                | (go_at_call 15; have hk0 := hkb; clear hk0; refine (CO2.out _ hkb).mono ?_; rintro e wc ⟨rfl, hw⟩; have hkc := hkb.trans (hw.mono hkb.size); have zkc := hkc.size; clear hw)
                | (go_at_call 15; refine (CO.out _ (by go_grown)).mono ?_; rintro e wa ⟨rfl, hw⟩; have hka := below_of (w := W) (by go_grown) hw; have zka := hka.size; clear hw)
                | (go_at_call 16; have hk0 := hkc; clear hk0; refine (RO2.out _ hkc).mono ?_; rintro e wd ⟨rfl, hw⟩; have hkd := hkc.trans (hw.mono hkc.size); have zkd := hkd.size; clear hw)
                | (go_at_call 16; refine (RO.out _ hka).mono ?_; rintro e wb ⟨rfl, hw⟩; have hkb := hka.trans (hw.mono hka.size); have zkb := hkb.size; clear hw)
                | (go_at_call 18; refine (RR9.out _ hkd).mono ?_; rintro e we ⟨A9, c9, rfl, rr9, hw⟩; have hke := hkd.trans (hw.mono hkd.size); have zke := hke.size; have R9 := Lib.hid rr9; clear hw rr9)
                | (go_at_call 17; refine (RS.out _ A9 c9 hke R9.out).mono ?_; rintro e wf ⟨rfl, hw⟩; have hkf := hke.trans (hw.mono hke.size); have zkf := hkf.size; clear hw))
            all_goals
              have HE := Lib.hid (HF.out.keep hkf)
              go_wp2_with fail
              go_roundw
              case rel => exact ⟨k + 1, A', c', s2, by omega, by go_num, HE.out⟩
              case measure => simp [intOf]; omega
        · have HC4 := Lib.hid (skdecay_same HK.out.sk)
          go_wp2_with fail
          refine HC4.out.mono ?_
          rintro e w4 ⟨rfl, h4, f4⟩
          have HM := Lib.hid (HK.out.mid h4 f4)
          clear h4 f4 HC4 zg c0 c1 c2 c3 c4 zq u0
          have zq := lt_of_block HM.out.bx
          have u0 : w4.cell? ⟨q, 0, none⟩ = some (.slice A2 s.n c) := by rw [cell_row HM.out.bx]; rfl
          have CT := Lib.hid (rdecay_any w4 A2 c s HM.out.rb.rr HK.out.sk.ok)
          go_wp2_with fail
          refine CT.out.mono ?_
          rintro e w7 ⟨A', c', rfl, hr7, hw7⟩
          have hzq : B0 ≤ w4.heap.size := by have := HM.out.zb; omega
          have HF := Lib.hid (HM.out.fin (c' := c') hw7 (RX.of_rb hr7 hzq zq))
          have hbq := (HM.out.keep hw7).bx
          have u1 : w7.cell? ⟨q, 0, none⟩ = some (.slice A2 s.n c) := by rw [cell_row hbq]; rfl
          have uf1 := frozen_of_row _ _ 0 _ _ hbq
          have zq1 := lt_of_block hbq
          clear hr7 hw7 hbq zq u0 CT HK hzq
          go_upto_region 17 with fail
          generalize hX : World.setCell _ _ _ = X at HF ⊢
          generalize s.dec = s2 at HF ⊢
          clear u1 uf1 zq1 hX HM
          obtain ⟨W, hWx⟩ : ∃ W, W = X := ⟨_, rfl⟩
          subst hWx
          have HBw := Lib.hid (HB.out.trans (HF.out.bl.mono z1))
          obtain ⟨zg, c0, c1, c2, c3, c4⟩ := D.out W HBw.out
          obtain ⟨zp, p0, p1, p2, p3⟩ := HF.out.pb.at
          have zq := lt_of_block HF.out.bx
          have u0 : W.cell? ⟨q, 0, none⟩ = some (.slice A' (s2).n c') := by rw [cell_row HF.out.bx]; rfl
          have CO := Lib.hid (fun V (hb : Below W.heap.size W V) => skcount_any V t S s2 (HF.out.sk.keep hb) p)
          have CO2 := Lib.hid (fun V (hb : Below W.heap.size W V) => skcount_any V t S s2 (HF.out.sk.keep hb) r)
          have RO := Lib.hid (fun V (hb : Below W.heap.size W V) => rcount_any V A' c' s2 p (HF.out.rb.rr.keep hb) HF.out.sk.ok)
          have RO2 := Lib.hid (fun V (hb : Below W.heap.size W V) => rcount_any V A' c' s2 r (HF.out.rb.rr.keep hb) HF.out.sk.ok)
          have RR9 := Lib.hid (fun V (hb : Below W.heap.size W V) => skrows_n (HF.out.sk.keep hb))
          have n9 := HF.out.sk.ok.n
          have m9 := HF.out.sk.ok.m
          have RS := Lib.hid (fun V A9 c9 (hb : Below W.heap.size W V) (h9 : RR KN V A9 (s2).rows) => rsame_any V A9 A' c9 c' s2 h9 (HF.out.rb.rr.keep hb) (by omega) (by omega))
          generalize (s2).cnt p = y at CO RO
          generalize (s2).cnt r = y2 at CO2 RO2
          clear n9 m9
          go_wp2_with fail
          go_region_held3 (fun w' => w'.cell? ⟨q, 0, none⟩ = some (.slice A' (s2).n c') ∧ w'.cell? ⟨g, off + k * 5 + 1, none⟩ = some (.int .u64 (u r.a.hi)) ∧ w'.cell? ⟨g, off + k * 5 + 2, none⟩ = some (.int .u64 (u r.a.lo)) ∧ w'.cell? ⟨g, off + k * 5 + 3, none⟩ = some (.bool r.a.v6) ∧ w'.cell? ⟨g, off + k * 5 + 4, none⟩ = some (.int .i64 r.n) ∧ w'.cell? ⟨bp, 0, none⟩ = some (.int .u64 (u p.a.hi)) ∧ w'.cell? ⟨bp, 1, none⟩ = some (.int .u64 (u p.a.lo)) ∧ w'.cell? ⟨bp, 2, none⟩ = some (.bool p.a.v6) ∧ w'.cell? ⟨bp, 3, none⟩ = some (.int .i64 p.n) ∧ Below W.heap.size W w')
            (first | with_reducible exact keepKP hkf zq zg zp u0 c1 c2 c3 c4 p0 p1 p2 p3 | with_reducible exact keepKP hke zq zg zp u0 c1 c2 c3 c4 p0 p1 p2 p3 | with_reducible exact keepKP hkd zq zg zp u0 c1 c2 c3 c4 p0 p1 p2 p3 | with_reducible exact keepKP hkc zq zg zp u0 c1 c2 c3 c4 p0 p1 p2 p3 | with_reducible exact keepKP hkb zq zg zp u0 c1 c2 c3 c4 p0 p1 p2 p3 | with_reducible exact keepKP hka zq zg zp u0 c1 c2 c3 c4 p0 p1 p2 p3 | (refine keepKP ?_ zq zg zp u0 c1 c2 c3 c4 p0 p1 p2 p3; go_grown))
            (first
              | (go_at_call 15; have hk0 := hkb; clear hk0; refine (CO2.out _ hkb).mono ?_; rintro e wc ⟨rfl, hw⟩; have hkc := hkb.trans (hw.mono hkb.size); have zkc := hkc.size; clear hw)
              | (go_at_call 15; refine (CO.out _ (by go_grown)).mono ?_; rintro e wa ⟨rfl, hw⟩; have hka := below_of (w := W) (by go_grown) hw; have zka := hka.size; clear hw)
              | (go_at_call 16; have hk0 := hkc; clear hk0; refine (RO2.out _ hkc).mono ?_; rintro e wd ⟨rfl, hw⟩; have hkd := hkc.trans (hw.mono hkc.size); have zkd := hkd.size; clear hw)
              | (go_at_call 16; refine (RO.out _ hka).mono ?_; rintro e wb ⟨rfl, hw⟩; have hkb := hka.trans (hw.mono hka.size); have zkb := hkb.size; clear hw)
              | (go_at_call 18; refine (RR9.out _ hkd).mono ?_; rintro e we ⟨A9, c9, rfl, rr9, hw⟩; have hke := hkd.trans (hw.mono hkd.size); have zke := hke.size; have R9 := Lib.hid rr9; clear hw rr9)
              | (go_at_call 17; refine (RS.out _ A9 c9 hke R9.out).mono ?_; rintro e wf ⟨rfl, hw⟩; have hkf := hke.trans (hw.mono hke.size); have zkf := hkf.size; clear hw))
          all_goals
            have HE := Lib.hid (HF.out.keep hkf)
            go_wp2_with fail
            go_roundw
            case rel => exact ⟨k + 1, A', c', s2, by omega, by go_num, HE.out⟩
            case measure => simp [intOf]; omega
      · obtain rfl : ls.length = k := by omega
        have t2 : decide ((ls.length : Int) < (ls.length : Int)) = false := by simp
        obtain ⟨zp, p0, p1, p2, p3⟩ := HK.out.pb.at
        obtain ⟨W, hWx⟩ : ∃ W, W = wr := ⟨_, rfl⟩
        subst hWx
        have zq := lt_of_block HK.out.bx
        have u0 : W.cell? ⟨q, 0, none⟩ = some (.slice A2 s.n c) := by rw [cell_row HK.out.bx]; rfl
        have RR9 := Lib.hid (fun V (hb : Below W.heap.size W V) => skrows_n (HK.out.sk.keep hb))
        have n9 := HK.out.sk.ok.n
        have m9 := HK.out.sk.ok.m
        have RS := Lib.hid (fun V A9 c9 (hb : Below W.heap.size W V) (h9 : RR KN V A9 s.rows) => rsame_any V A9 A2 c9 c s h9 (HK.out.rb.rr.keep hb) (by omega) (by omega))
        have HBw : Hid (Below w.heap.size w W) := Lib.hid (by rw [hbp]; exact HB.out.trans (HK.out.bl.mono z1))
        have HH := Lib.hid (fun V => hash_any row p V)
        have HH2 := Lib.hid (fun V => rhash_any row p V)
        generalize hsh row p = hv at HH HH2
        clear n9 m9
        go_wp2_with fail
        go_region_held3 (fun w' => w'.cell? ⟨q, 0, none⟩ = some (.slice A2 s.n c) ∧ w'.cell? ⟨bp, 0, none⟩ = some (.int .u64 (u p.a.hi)) ∧ w'.cell? ⟨bp, 1, none⟩ = some (.int .u64 (u p.a.lo)) ∧ w'.cell? ⟨bp, 2, none⟩ = some (.bool p.a.v6) ∧ w'.cell? ⟨bp, 3, none⟩ = some (.int .i64 p.n) ∧ Below W.heap.size W w')
          (first | with_reducible exact keepP hkd zq zp u0 p0 p1 p2 p3 | with_reducible exact keepP hkc zq zp u0 p0 p1 p2 p3 | with_reducible exact keepP hkb zq zp u0 p0 p1 p2 p3 | with_reducible exact keepP hka zq zp u0 p0 p1 p2 p3 | (refine keepP ?_ zq zp u0 p0 p1 p2 p3; go_grown))
          (first
            | (go_at_call 18; refine (RR9.out _ (by go_grown)).mono ?_; rintro e wa ⟨A9, c9, rfl, rr9, hw⟩; have hka := below_of (w := W) (by go_grown) hw; have zka := hka.size; have R9 := Lib.hid rr9; clear hw rr9)
            | (go_at_call 17; refine (RS.out _ A9 c9 hka R9.out).mono ?_; rintro e wb ⟨rfl, hw⟩; have hkb := hka.trans (hw.mono hka.size); have zkb := hkb.size; clear hw)
            | (go_at_call 19; refine (HH.out _).mono ?_; rintro e wc ⟨rfl, hw⟩; have hkc := hkb.trans (hw.mono hkb.size); have zkc := hkc.size; clear hw)
            | (go_at_call 20; refine (HH2.out _).mono ?_; rintro e wd ⟨rfl, hw⟩; have hkd := hkc.trans (hw.mono hkc.size); have zkd := hkd.size; clear hw))
        all_goals
          have HE := Lib.hid (HBw.out.trans (hkd.mono HBw.out.size))
          go_wp2_with fail
          go_ret
          exact ⟨rfl, HE.out⟩

end Go.Proofs.Ytpigdjlanabacaa

namespace Go.Proofs.Ytpigdjlanabacaa
open Go.ChangeShapes Go.WideShapes Go.ChangeAt Go.RowKit

set_option maxRecDepth 100000 in
theorem sketchPlays_lifted (os : Os) (started : os.Started) (H : Type) (enc : TypeId × Value → H) :
    ReturnsInHanded {} Try.checked os 3 .any (Rows.sketchPlaysSpec.pre6 enc Try.prog Try.f3 Rows.sketchPlaysRow.domain false) (Rows.sketchPlaysSpec.post enc Try.prog Try.f3 false true false false) := by
  refine returnsInHanded_of_change (C := Try.checked) own started (by kernel_rfl) Try.func3
    (ChangeSpec.witness6 (enc := enc) (C := Try.checked) false ⟨#[], #[.int .i64 0, .int .i64 0, .slice none 0 0, .agg #[.int .u64 0, .int .u64 0, .bool false, .int .i64 0], .int .i64 0], []⟩ 8 (by kernel_rfl) (by kernel_rfl) (by kernel_rfl) (by kernel_rfl)) ?_
  intro W base args ds gs before hval0 hW hcnd _
  have hval : ∀ (j : Nat) t v, Try.f3.params[j]? = some t → args[j]? = some v → Value.okWide Try.prog W .any base t v := hval0
  have hW' := hW
  obtain ⟨p, q, hA0, hV, rfl, hfz, hnd⟩ := hW
  have hA : DataW.TrodAll enc Try.prog W 0 (fun _ => true) true Try.f3.params.toList args.toList ds p := hA0
  rw [Try.params3] at hA hval
  obtain ⟨v0, vs0, d0, ds0, p0, q0, hargs, rfl, rfl, h0, r0⟩ := trodAll_cons hA
  obtain ⟨v1, vs1, d1, ds1, p1, q1, rfl, rfl, rfl, h1, r1⟩ := trodAll_cons r0
  obtain ⟨v2, vs2, d2, ds2, p2, q2, rfl, rfl, rfl, h2, r2⟩ := trodAll_cons r1
  obtain ⟨v3, vs3, d3, ds3, p3, q3, rfl, rfl, rfl, h3, r3⟩ := trodAll_cons r2
  obtain ⟨v4, vs4, d4, ds4, p4, q4, rfl, rfl, rfl, h4, r4⟩ := trodAll_cons r3
  obtain ⟨rfl, rfl, rfl⟩ := trodAll_nil r4
  obtain rfl : args = #[v0, v1, v2, v3, v4] := by cases args; simp_all
  obtain ⟨rfl, rfl⟩ := trodVars_none hV
  have lt0 : ∀ x ∈ p0, x.block < W.heap.size := by obtain ⟨m, hm⟩ := h0; exact DataW.trod_lt m _ _ _ hm
  have k0 := h0
  obtain ⟨a0, rfl, e0, f0, w0⟩ := open_int Try.underlying3 (hval 0 3 v0 rfl rfl) h0
  have lt1 : ∀ x ∈ p1, x.block < W.heap.size := by obtain ⟨m, hm⟩ := h1; exact DataW.trod_lt m _ _ _ hm
  have k1 := h1
  obtain ⟨a1, rfl, e1, f1, w1⟩ := open_int Try.underlying3 (hval 1 3 v1 rfl rfl) h1
  have lt2 : ∀ x ∈ p2, x.block < W.heap.size := by obtain ⟨m, hm⟩ := h2; exact DataW.trod_lt m _ _ _ hm
  obtain ⟨A2, cap2, l2, rfl, w2⟩ := open_acs11 (hval 2 22 v2 rfl rfl) h2 (fun _ => rfl)
  have lt3 : ∀ x ∈ p3, x.block < W.heap.size := by obtain ⟨m, hm⟩ := h3; exact DataW.trod_lt m _ _ _ hm
  obtain ⟨a3, rfl, w3⟩ := open_pf (hval 3 27 v3 rfl rfl) h3
  have lt4 : ∀ x ∈ p4, x.block < W.heap.size := by obtain ⟨m, hm⟩ := h4; exact DataW.trod_lt m _ _ _ hm
  have k4 := h4
  obtain ⟨a4, rfl, e4, f4, w4⟩ := open_int Try.underlying3 (hval 4 3 v4 rfl rfl) h4
  clear hA0 hval0
  refine (play11_law a0 a1 A2 cap2 l2 a3 a4 W w2).mono fun e W' ⟨he, bel⟩ => ?_
  subst he
  exact ⟨_, rfl, _, _, _, [], _, [], hW', trodAll_mk1 (shut_bool Try.underlying4 _), (trodAll_cons_mk (Below.trod laidOut (by kernel_rfl) (of_decide_eq_true (by kernel_rfl)) h0 bel lt0) (trodAll_cons_mk (Below.trod laidOut (by kernel_rfl) (of_decide_eq_true (by kernel_rfl)) h1 bel lt1) (trodAll_cons_mk (Below.trod laidOut (by kernel_rfl) (of_decide_eq_true (by kernel_rfl)) h2 bel lt2) (trodAll_cons_mk (Below.trod laidOut (by kernel_rfl) (of_decide_eq_true (by kernel_rfl)) h3 bel lt3) (trodAll_cons_mk (Below.trod laidOut (by kernel_rfl) (of_decide_eq_true (by kernel_rfl)) h4 bel lt4) trodAll_mk0))))), rfl, bel.frame _, fun h => by cases h⟩

theorem sketchPlays_holds : Rows.SketchPlaysSaid :=
  OpenClaim.holds_of_wide 3 Try.f3 rfl rfl rfl rfl rfl rfl rfl ⟨rfl, rfl, rfl, rfl, rfl⟩ rfl rfl rfl rfl rfl (by kernel_rfl) Try.func3 (by kernel_rfl)
    (of_decide_eq_true (by kernel_rfl)) (by unfold Func.isWrapper; first | (rw [if_pos (by decide +kernel)]; kernel_rfl) | (rw [if_neg (by decide +kernel)]; exact ⟨rfl, rfl⟩))
    (fun os started H enc _ => sketchPlays_lifted os started H enc)

end Go.Proofs.Ytpigdjlanabacaa
