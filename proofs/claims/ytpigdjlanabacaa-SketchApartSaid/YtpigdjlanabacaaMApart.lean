/-
  SketchApart: for every input the call returns true, and each argument reads afterwards as it read before. No condition.
-/
import Derived.Test.YtpigdjlanabacaaRow
import Derived.Test.YtpigdjlanabacaaRk
import Derived.Deep.Slices
import Derived.Test.YtpigdjlanabacaaRowP
import Derived.Test.YtpigdjlanabacaaX2
namespace Go.Proofs.Ytpigdjlanabacaa
set_option maxRecDepth 100000
open Go.ChangeShapes Go.WideShapes Go.ChangeAt Go.RowKit Go.Joins Go.Deep

theorem add_plainK (g off j : Nat) : (⟨g, off, none⟩ : Addr).add j = ⟨g, off + j, none⟩ := by unfold Addr.add; split <;> simp_all
theorem Kd.opened {α H : Type} (K : Kd α) (z : α) {enc : TypeId × Value → H} {E SL : TypeId} (hu : Try.prog.underlying SL = some (.slice E)) (hk : Try.prog.cellsOf E = K.k) {W : World} {base b0 : Nat} {spare : Nat → Bool} {held : Bool} {r : Reach} {v : Value} {d : DataW H} {p : List MemPlace}
    (dec : ∀ {n : Nat} {cs : List Value} {x : DataW H × List MemPlace}, cs.length = K.k → DataW.trod enc Try.prog W base spare held n E cs = some x → ∃ y : α, cs = K.enc y)
    (hv : Value.okWide Try.prog W r b0 SL v) (h : DataW.Trod enc Try.prog W base spare held SL v d p) :
    ∃ A c rs, v = .slice A (List.length rs) c ∧ K.Rd W A rs := by
  obtain ⟨A, len, cap, rfl⟩ := okWide_slice hu hv
  obtain ⟨fuel, hf⟩ := h
  rcases open_slice hu hf with ⟨hcs, _⟩ | ⟨a, l, c, m, n, D, Pl, hcs, _, hl, hm, hmm, _, hi⟩
  · simp [Value.cells] at hcs
    obtain ⟨rfl, rfl, rfl⟩ := hcs
    exact ⟨none, 0, [], rfl, fun h => absurd rfl h⟩
  · simp [Value.cells] at hcs
    obtain ⟨rfl, rfl, rfl⟩ := hcs
    have hlm : len ≤ m := by rw [hmm]; split <;> omega
    have key : ∀ i, i < len → ∃ y : α, ∀ j x, (K.enc y)[j]? = some x → W.cell? (a.add (i * K.k + j)) = some x := by
      intro i hlt
      obtain ⟨cs', hc, ht⟩ := hi i (by omega)
      rw [hk] at hc
      obtain ⟨_, hcl, hat⟩ := World.cells?_some hc
      obtain ⟨y, rfl⟩ := dec hcl ht
      refine ⟨y, fun j x hx => ?_⟩
      have hj : j < K.k := by
        rcases Nat.lt_or_ge j K.k with h1 | h1
        · exact h1
        · rw [List.getElem?_eq_none (by rw [K.len]; omega)] at hx; cases hx
      rw [← Go.Deep.add_add, hat j hj, hx]
    have hch : ∃ f : Nat → α, ∀ i, i < len → ∀ j x, (K.enc (f i))[j]? = some x → W.cell? (a.add (i * K.k + j)) = some x :=
      ⟨fun i => if h : i < len then (key i h).choose else z, fun i hlt j x hx => (key i hlt).choose_spec j x (by simpa [hlt] using hx)⟩
    obtain ⟨f, hf2⟩ := hch
    refine ⟨some a, cap, (List.range len).map f, by simp, fun hne => ?_⟩
    have hpos : 0 < len := by
      rcases Nat.eq_zero_or_pos len with h0 | h0
      · rw [h0] at hne; simp at hne
      · exact h0
    have hc0 : ∃ x, (K.enc (f 0))[0]? = some x := ⟨_, List.getElem?_eq_getElem (by rw [K.len]; exact K.pos)⟩
    obtain ⟨x0, hx0⟩ := hc0
    obtain ⟨g, off, spot⟩ := a
    have hspot : spot = none := by
      have := hf2 0 hpos 0 _ hx0
      rw [show 0 * K.k + 0 = 0 from by omega] at this
      simpa [Addr.add] using World.cell?_spot this
    subst hspot
    have hcell : ∀ i, i < len → ∀ j x, (K.enc (f i))[j]? = some x → W.cell? ⟨g, off + i * K.k + j, none⟩ = some x := fun i hlt j x hx => by
      have := hf2 i hlt j x hx
      rw [add_plainK, ← Nat.add_assoc] at this
      exact this
    refine ⟨g, off, rfl, World.block_lt_of_cell? W ⟨g, off + 0 * K.k + 0, none⟩ (hcell 0 hpos 0 _ hx0), fun i hlt j hj => ?_⟩
    have hlt' : i < len := by simpa using hlt
    have e : ((List.range len).map f)[i] = f i := by simp
    rw [e, List.getElem?_eq_getElem (by rw [K.len]; exact hj)]
    exact hcell i hlt' j _ (List.getElem?_eq_getElem (by rw [K.len]; exact hj))

end Go.Proofs.Ytpigdjlanabacaa

namespace Go.Proofs.Ytpigdjlanabacaa
set_option maxRecDepth 100000
open Go.ChangeShapes Go.WideShapes Go.ChangeAt Go.RowKit Go.Joins Go.Deep

theorem pfk_cells {H : Type} {enc : TypeId × Value → H} {W : World} {base n : Nat} {spare : Nat → Bool} {held : Bool} {cs : List Value} {x : DataW H × List MemPlace}
    (hl : cs.length = 4) (h : DataW.trod enc Try.prog W base spare held n 27 cs = some x) : ∃ r : Pf, cs = KPf.enc r := by
  match cs, hl with
  | [c0, c1, c2, c3], _ =>
  have k1 : Try.prog.cellsOf 3 = 1 := by kernel_rfl
  have k4 : Try.prog.cellsOf 25 = 3 := by kernel_rfl
  obtain ⟨y2, y3, n2, _, _, h2, h3⟩ := trod_struct2 Try.underlying27 h
  have g2 : DataW.trod enc Try.prog W base spare held n2 25 [c0, c1, c2] = some y2 := by simpa [k4] using h2
  have g3 : DataW.trod enc Try.prog W base spare held n2 3 [c3] = some y3 := by simpa [k4, k1] using h3
  obtain ⟨z0, z1, z2, m, hz, _, i0, i1, i2⟩ := trod_struct3 Try.underlying25 g2
  have k2 : Try.prog.cellsOf 23 = 1 := by kernel_rfl
  have k3 : Try.prog.cellsOf 4 = 1 := by kernel_rfl
  have j0 : DataW.trod enc Try.prog W base spare held m 23 [c0] = some z0 := by simpa [k2] using i0
  have j1 : DataW.trod enc Try.prog W base spare held m 23 [c1] = some z1 := by simpa [k2] using i1
  have j2 : DataW.trod enc Try.prog W base spare held m 4 [c2] = some z2 := by simpa [k3] using i2
  obtain ⟨x0, e0, _, w0⟩ := DataW.trod_int Try.underlying23 j0
  obtain ⟨x1, e1, _, w1⟩ := DataW.trod_int Try.underlying23 j1
  obtain ⟨x2, e2, _⟩ := DataW.trod_bool Try.underlying4 j2
  obtain ⟨x3, e3, _, w3⟩ := DataW.trod_int Try.underlying3 g3
  obtain ⟨lo0, hi0⟩ := bounds_u64 w0
  obtain ⟨lo1, hi1⟩ := bounds_u64 w1
  obtain ⟨a0, rfl⟩ := u_of x0 lo0 (by omega)
  obtain ⟨a1, rfl⟩ := u_of x1 lo1 (by omega)
  simp at e0 e1 e2 e3
  subst e0 e1 e2 e3
  exact ⟨⟨⟨a0, a1, x2⟩, x3⟩, rfl⟩
theorem open_pfk {H : Type} {enc : TypeId × Value → H} {W : World} {base b0 : Nat} {spare : Nat → Bool} {held : Bool} {r : Reach} {v : Value} {d : DataW H} {p : List MemPlace}
    (hv : Value.okWide Try.prog W r b0 51 v) (h : DataW.Trod enc Try.prog W base spare held 51 v d p) (_ : ∀ b, spare b = true) :
    ∃ A c rs, v = .slice A (List.length rs) c ∧ KPf.Rd W A rs :=
  KPf.opened nilP Try.underlying51 (by kernel_rfl) (fun hl h => pfk_cells hl h) hv h
theorem ac11_cells {H : Type} {enc : TypeId × Value → H} {W : World} {base n : Nat} {spare : Nat → Bool} {held : Bool} {cs : List Value} {x : DataW H × List MemPlace}
    (hl : cs.length = 5) (h : DataW.trod enc Try.prog W base spare held n 36 cs = some x) : ∃ r : Ac11, cs = KA11.enc r := by
  match cs, hl with
  | [c, c0, c1, c2, c3], _ =>
  obtain ⟨y, y0, n, hx, _, h, h0⟩ := trod_struct2 Try.underlying36 h
  have k0 : Try.prog.cellsOf 27 = 4 := by kernel_rfl
  have k3 : Try.prog.cellsOf 4 = 1 := by kernel_rfl
  have g : DataW.trod enc Try.prog W base spare held n 4 [c] = some y := by simpa [k3] using h
  have g0 : DataW.trod enc Try.prog W base spare held n 27 [c0, c1, c2, c3] = some y0 := by simpa [k0, k3] using h0
  obtain ⟨x, e, _⟩ := DataW.trod_bool Try.underlying4 g
  obtain ⟨r, hr⟩ := pfk_cells rfl g0
  simp at e
  subst e
  simp only [KPf, pfE, List.cons.injEq, and_true] at hr
  obtain ⟨rfl, rfl, rfl, rfl⟩ := hr
  exact ⟨⟨x, r⟩, rfl⟩
theorem open_acs11 {H : Type} {enc : TypeId × Value → H} {W : World} {base b0 : Nat} {spare : Nat → Bool} {held : Bool} {r : Reach} {v : Value} {d : DataW H} {p : List MemPlace}
    (hv : Value.okWide Try.prog W r b0 22 v) (h : DataW.Trod enc Try.prog W base spare held 22 v d p) (_ : ∀ b, spare b = true) :
    ∃ A c rs, v = .slice A (List.length rs) c ∧ KA11.Rd W A rs :=
  KA11.opened ⟨false, nilP⟩ Try.underlying22 (by kernel_rfl) (fun hl h => ac11_cells hl h) hv h

end Go.Proofs.Ytpigdjlanabacaa

namespace Go.Proofs.Ytpigdjlanabacaa
open Go.RowKit
set_option maxRecDepth 100000

theorem hrow_257 : hrow 257 = hrow 1 := by decide
theorem hsh_257 (p : Pf) : hsh 257 p = hsh 1 p := by unfold hsh; rw [hrow_257]
set_option maxHeartbeats 4000000 in
theorem apart11_law (rows width : Int) (A : Option Addr) (cap : Nat) (ls : List Ac11) (p : Pf) (w : World) (hr : KA11.Rd w A ls) : Calls Try.prog 7 #[.int .i64 rows, .int .i64 width, .slice A ls.length cap, .agg #[.int .u64 (u p.a.hi), .int .u64 (u p.a.lo), .bool p.a.v6, .int .i64 p.n]] w fun e w' => e = .returned (.bool true) ∧ Below w.heap.size w w' := by
  have HR := Lib.hid hr
  clear hr
  go_enter Try.func7, Try.ntmps7
  go_wp2_with fail
  refine (awake11_any _).mono ?_
  rintro e w1 ⟨rfl, b1⟩
  have HP := Lib.hid (PB.made w p b1)
  have b2 := below_of (w := w) (by go_grown) b1
  have HB := Lib.hid b2
  have z1 := b2.size
  clear b1 b2
  by_cases hlen : 80 < ls.length
  · have t0 : decide (80 < (ls.length : Int)) = true := by simp; omega
    go_wp2
    go_ret
    exact ⟨rfl, HB.out⟩
  · have t0 : decide (80 < (ls.length : Int)) = false := by simp; omega
    have HW : Hid (∀ {t : Nat} {s : Sk} {wr : World}, WK noXk w1 t s wr → Below w.heap.size w wr) := Lib.hid (fun h => HB.out.trans (h.below.mono z1))
    generalize hbp : w.heap.size = bp at HP
    go_wp2_with fail
    refine (wk_new rows width w1).mono ?_
    rintro e w2 ⟨t, rfl, h2⟩
    have HL0 : Hid (∀ q, (Sk.new rows width).does q = psane q) := Lib.hid (new_does rows width)
    have H2 := Lib.hid h2
    clear h2
    go_wp2_with fail
    go_loopw [11] (fun i wr => ∃ (k : Nat) (s : Sk), k ≤ ls.length ∧ i = .int .i64 k ∧ (∀ q, s.does q = psane q) ∧ WK noXk w1 t s wr) (fun i _ => ls.length - (intOf i).toNat)
    case atStart => exact ⟨0, _, by omega, rfl, HL0.out, H2.out⟩
    case round =>
      obtain ⟨k, s, hk, rfl, hd, hh⟩ := hrel
      have HD := Lib.hid hd
      have HS := Lib.hid hh
      have HPr := Lib.hid (HP.out.keep hh.below)
      clear hd hh H2 HL0
      by_cases hlt : k < ls.length
      · have t1 : decide ((k : Int) < (ls.length : Int)) = true := by simp; omega
        have k1 : (k : Int) < (ls.length : Int) := by omega
        obtain ⟨g, off, rfl, hc⟩ := ka11_at HR.out hlt
        generalize ls[k] = a at hc
        have D := Lib.hid hc
        obtain ⟨dc, q⟩ := a
        obtain ⟨zp, p0, p1, p2, p3⟩ := HPr.out.at
        have hct := wk_count HS.out p
        have hcb := cnt_bd HS.out.ok p
        have HC0 : Hid (∃ c, s.cnt p = c) := Lib.hid ⟨_, rfl⟩
        clear hc
        obtain ⟨c, hcc⟩ := HC0.out
        rw [hcc] at hct hcb
        have HCt := Lib.hid hct
        have HCC := Lib.hid hcc
        clear hct hcc HC0
        go_wp2_with fail
        refine HCt.out.mono ?_
        rintro e w3 ⟨rfl, b3⟩
        have H3 := Lib.hid (HS.out.keep b3)
        clear b3 zp p0 p1 p2 p3 HCt
        obtain ⟨zg, c0, c1, c2, c3, c4⟩ := D.out w3 (HW.out H3.out)
        try dsimp only at c0 c1 c2 c3 c4
        cases dc
        · go_wp2_with fail
          refine (wk_add H3.out q).mono ?_
          rintro e w4 ⟨rfl, h4, -⟩
          have H4 := Lib.hid h4
          have HP4 := Lib.hid (HP.out.keep h4.below)
          clear h4 zg c0 c1 c2 c3 c4 H3
          obtain ⟨zp, p0, p1, p2, p3⟩ := HP4.out.at
          have hct := wk_count H4.out p
          have hcb2 := cnt_bd H4.out.ok p
          obtain ⟨a1, a2⟩ := add_cnt HS.out.ok q p
          rw [HCC.out] at a1 a2
          have HX : Hid (∃ d, (s.add q).cnt p = d) := Lib.hid ⟨_, rfl⟩
          obtain ⟨d, hdd⟩ := HX.out
          rw [hdd] at hct hcb2 a1 a2
          have HCt := Lib.hid hct
          have HDD := Lib.hid hdd
          have HD2 : Hid (∀ r, (s.add q).does r = psane r) := Lib.hid (fun r => (add_does s q r).trans (HD.out r))
          clear hct hdd HX
          rw [HD.out q]
          go_wp2_with fail
          refine HCt.out.mono ?_
          rintro e w5 ⟨rfl, b5⟩
          have H5 := Lib.hid (H4.out.keep b5)
          have HP5 := Lib.hid (HP.out.keep H5.out.below)
          clear b5 zp p0 p1 p2 p3 H4 HCt HP4
          obtain ⟨zg, c0, c1, c2, c3, c4⟩ := D.out w5 (HW.out H5.out)
          try dsimp only at c0 c1 c2 c3 c4
          obtain ⟨zp, p0, p1, p2, p3⟩ := HP5.out.at
          have E0 := fun x : Later w5.heap.size w5 => (x.cell (p := ⟨g, off + k * 5 + 1, none⟩) zg).trans c1
          have E1 := fun x : Later w5.heap.size w5 => (x.cell (p := ⟨g, off + k * 5 + 2, none⟩) zg).trans c2
          have E2 := fun x : Later w5.heap.size w5 => (x.cell (p := ⟨g, off + k * 5 + 3, none⟩) zg).trans c3
          have E3 := fun x : Later w5.heap.size w5 => (x.cell (p := ⟨g, off + k * 5 + 4, none⟩) zg).trans c4
          have P0 := fun x : Later w5.heap.size w5 => (x.cell (p := ⟨bp, 0, none⟩) zp).trans p0
          have P1 := fun x : Later w5.heap.size w5 => (x.cell (p := ⟨bp, 1, none⟩) zp).trans p1
          have P2 := fun x : Later w5.heap.size w5 => (x.cell (p := ⟨bp, 2, none⟩) zp).trans p2
          have P3 := fun x : Later w5.heap.size w5 => (x.cell (p := ⟨bp, 3, none⟩) zp).trans p3
          clear zg c0 c1 c2 c3 c4 zp p0 p1 p2 p3
          have g1 : decide ((d : Int) < (c : Int)) = false := by simp; omega
          have g2 : decide ((c : Int) + 1 < (d : Int)) = false := by simp; omega
          have g3 : IntKind.i64.wrap ((c : Int) + 1) = (c : Int) + 1 := by rw [IntKind.wrap_i64]; omega
          have g4 : decide (d < c) = false := by simp; omega
          have g5 : decide (c + 1 < d) = false := by simp; omega
          have v1 : (c : Int) ≤ (d : Int) := by omega
          have v2 : (d : Int) ≤ (c : Int) + 1 := by omega
          cases hq : psane q
          · have hcd : d = c := by
              have := add_not ((HD.out q).trans hq) p
              rw [HDD.out, HCC.out] at this
              exact this
            subst hcd
            clear hq
            go_wp2_with fail
            refine region_later w5.heap.size (by kernel_rfl) (by kernel_rfl) ?_
            repeat (go_big_quiet_step (fail))
            refine wpQuiet_nil ?_
            intro x
            have H6 := Lib.hid (H5.out.keep x.below)
            clear E0 E1 E2 E3 P0 P1 P2 P3
            generalize x.at = w6 at *
            clear x
            go_wp2
            go_roundw
            case rel => exact ⟨k + 1, s.add q, by omega, by go_num, HD2.out, H6.out⟩
            case measure => simp [intOf]; omega
          · cases he : pfEq q p
            · unfold pfEq at he
              clear hq
              go_wp2_with fail
              refine region_later w5.heap.size (by kernel_rfl) (by kernel_rfl) ?_
              repeat (go_big_quiet_step (fail))
              refine wpQuiet_nil ?_
              intro x
              have H6 := Lib.hid (H5.out.keep x.below)
              clear E0 E1 E2 E3 P0 P1 P2 P3
              generalize x.at = w6 at *
              clear x
              go_wp2
              go_roundw
              case rel => exact ⟨k + 1, s.add q, by omega, by go_num, HD2.out, H6.out⟩
              case measure => simp [intOf]; omega
            · have hcd : d = min c 254 + 1 := by
                obtain rfl := (pfEq_iff q p).1 he
                have := add_self ((HD.out q).trans hq)
                rw [HDD.out, HCC.out] at this
                exact this
              unfold pfEq at he
              clear hq
              by_cases hc4 : c < 254
              · have hc5 : (c : Int) < 254 := by omega
                obtain rfl : d = c + 1 := by omega
                have g9 : ((c + 1 : Nat) : Int) = (c : Int) + 1 := by omega
                have g6 : decide ((c : Int) + 1 < (c : Int)) = false := by simp; omega
                have g7 : decide (c + 1 < c) = false := by simp
                have g8 : decide ((c : Int) + 1 < (c : Int) + 1) = false := by simp
                have v6 : (c : Int) ≤ (c : Int) + 1 := by omega
                have v7 : (c : Int) + 1 < 255 := by omega
                have v8 : decide ((c : Int) + 1 < 255) = true := by simp; omega
                clear g1 g2 g4 g5 v1 v2
                clear hcd
                go_wp2_with fail
                refine region_later w5.heap.size (by kernel_rfl) (by kernel_rfl) ?_
                repeat (go_big_quiet_step (fail))
                refine wpQuiet_nil ?_
                intro x
                have H6 := Lib.hid (H5.out.keep x.below)
                clear E0 E1 E2 E3 P0 P1 P2 P3
                generalize x.at = w6 at *
                clear x
                go_wp2
                go_roundw
                case rel => exact ⟨k + 1, s.add q, by omega, by go_num, HD2.out, H6.out⟩
                case measure => simp [intOf]; omega
              · obtain rfl | rfl : c = 254 ∨ c = 255 := by omega
                all_goals
                  obtain rfl : d = 255 := by omega
                  clear hcd
                  go_wp2_with fail
                  refine region_later w5.heap.size (by kernel_rfl) (by kernel_rfl) ?_
                  repeat (go_big_quiet_step (fail))
                  refine wpQuiet_nil ?_
                  intro x
                  have H6 := Lib.hid (H5.out.keep x.below)
                  clear E0 E1 E2 E3 P0 P1 P2 P3
                  generalize x.at = w6 at *
                  clear x
                  go_wp2
                  go_roundw
                  case rel => exact ⟨k + 1, s.add q, by omega, by go_num, HD2.out, H6.out⟩
                  case measure => simp [intOf]; omega
        · go_wp2_with fail
          refine (wk_decay H3.out).mono ?_
          rintro e w4 ⟨rfl, h4, -⟩
          have H4 := Lib.hid h4
          have HP4 := Lib.hid (HP.out.keep h4.below)
          clear h4 zg c0 c1 c2 c3 c4 H3
          obtain ⟨zp, p0, p1, p2, p3⟩ := HP4.out.at
          have hct := wk_count H4.out p
          rw [dec_cnt, HCC.out] at hct
          have HCt := Lib.hid hct
          have HD2 : Hid (∀ r, s.dec.does r = psane r) := Lib.hid (fun r => (dec_does s r).trans (HD.out r))
          have g1 : (c : Int).tdiv 2 = ((c / 2 : Nat) : Int) := by rw [Int.tdiv_eq_ediv_of_nonneg (by omega)]; omega
          have g2 : IntKind.i64.wrap ((c : Int).tdiv 2) = ((c / 2 : Nat) : Int) := by rw [g1, IntKind.wrap_i64]; omega
          clear hct g1
          go_wp2_with fail
          refine HCt.out.mono ?_
          rintro e w5 ⟨rfl, b5⟩
          have H5 := Lib.hid (H4.out.keep b5)
          clear b5 H4 HCt
          go_wp2
          go_roundw
          case rel => exact ⟨k + 1, s.dec, by omega, by go_num, HD2.out, H5.out⟩
          case measure => simp [intOf]; omega
      · obtain rfl : ls.length = k := by omega
        have t1 : decide ((ls.length : Int) < (ls.length : Int)) = false := by simp
        obtain ⟨zp, p0, p1, p2, p3⟩ := HPr.out.at
        have P0 := fun x : Later wr.heap.size wr => (x.cell (p := ⟨bp, 0, none⟩) zp).trans p0
        have P1 := fun x : Later wr.heap.size wr => (x.cell (p := ⟨bp, 1, none⟩) zp).trans p1
        have P2 := fun x : Later wr.heap.size wr => (x.cell (p := ⟨bp, 2, none⟩) zp).trans p2
        have P3 := fun x : Later wr.heap.size wr => (x.cell (p := ⟨bp, 3, none⟩) zp).trans p3
        clear zp p0 p1 p2 p3
        have C3 : Hid (∀ W : World, Calls Try.prog 19 #[.int .i64 257, .agg #[.int .u64 (u p.a.hi), .int .u64 (u p.a.lo), .bool p.a.v6, .int .i64 p.n]] W fun e w' => e = .returned (.int .u64 (hsh 1 p)) ∧ Below W.heap.size W w') := Lib.hid (fun W => by have := hash_any 257 p W; rw [hsh_257] at this; exact this)
        have C2 : Hid (∀ W : World, Calls Try.prog 19 #[.int .i64 1, .agg #[.int .u64 (u p.a.hi), .int .u64 (u p.a.lo), .bool p.a.v6, .int .i64 p.n]] W fun e w' => e = .returned (.int .u64 (hsh 1 p)) ∧ Below W.heap.size W w') := Lib.hid (fun W => hash_any 1 p W)
        generalize hsh 1 p = y at C2 C3
        cases hp : psane p
        · have C0 : Hid (∀ W : World, Calls Try.prog 21 #[.agg #[.int .u64 (u p.a.hi), .int .u64 (u p.a.lo), .bool p.a.v6, .int .i64 p.n]] W fun e w' => e = .returned (.bool false) ∧ Below W.heap.size W w') := Lib.hid (fun W => by have := rpsane_any p W; rw [hp] at this; exact this)
          have C1 : Hid (∀ x : Later wr.heap.size wr, Calls Try.prog 15 #[.pointer (some ⟨t, 0, none⟩), .agg #[.int .u64 (u p.a.hi), .int .u64 (u p.a.lo), .bool p.a.v6, .int .i64 p.n]] x.at fun e w' => e = .returned (.int .i64 0) ∧ Below x.at.heap.size x.at w') := Lib.hid (fun x => by have := wk_count (HS.out.keep x.below) p; rw [cnt_no ((HD.out p).trans hp)] at this; exact this)
          clear hp
          go_wp2_with fail
          refine region_later wr.heap.size (by kernel_rfl) (by kernel_rfl) ?_
          repeat (go_big_quiet_step (first | (go_at_call 21; with_reducible exact later_of (Nat.le_refl _) (C0.out _)) | (go_at_call 15; with_reducible exact later_of (Nat.le_refl _) (C1.out _)) | (go_at_call 19; first | with_reducible exact later_of (Nat.le_refl _) (C2.out _) | with_reducible exact later_of (Nat.le_refl _) (C3.out _))))
          refine wpQuiet_nil ?_
          intro x
          have H6 := Lib.hid (HS.out.keep x.below)
          clear P0 P1 P2 P3
          generalize x.at = w6 at *
          clear x
          go_wp2
          go_ret
          exact ⟨rfl, HW.out H6.out⟩
        · have C0 : Hid (∀ W : World, Calls Try.prog 21 #[.agg #[.int .u64 (u p.a.hi), .int .u64 (u p.a.lo), .bool p.a.v6, .int .i64 p.n]] W fun e w' => e = .returned (.bool true) ∧ Below W.heap.size W w') := Lib.hid (fun W => by have := rpsane_any p W; rw [hp] at this; exact this)
          have C1 := C0
          clear hp
          go_wp2_with fail
          refine region_later wr.heap.size (by kernel_rfl) (by kernel_rfl) ?_
          repeat (go_big_quiet_step (first | (go_at_call 21; with_reducible exact later_of (Nat.le_refl _) (C0.out _)) | (go_at_call 15; with_reducible exact later_of (Nat.le_refl _) (C1.out _)) | (go_at_call 19; first | with_reducible exact later_of (Nat.le_refl _) (C2.out _) | with_reducible exact later_of (Nat.le_refl _) (C3.out _))))
          refine wpQuiet_nil ?_
          intro x
          have H6 := Lib.hid (HS.out.keep x.below)
          clear P0 P1 P2 P3
          generalize x.at = w6 at *
          clear x
          go_wp2
          go_ret
          exact ⟨rfl, HW.out H6.out⟩

end Go.Proofs.Ytpigdjlanabacaa

namespace Go.Proofs.Ytpigdjlanabacaa
open Go.ChangeShapes Go.WideShapes Go.ChangeAt Go.RowKit

set_option maxRecDepth 100000 in
theorem sketchApart_lifted (os : Os) (started : os.Started) (H : Type) (enc : TypeId × Value → H) :
    ReturnsInHanded {} Try.checked os 7 .any (Rows.sketchApartSpec.pre6 enc Try.prog Try.f7 Rows.sketchApartRow.domain false) (Rows.sketchApartSpec.post enc Try.prog Try.f7 false true false false) := by
  refine returnsInHanded_of_change (C := Try.checked) own started (by kernel_rfl) Try.func7
    (ChangeSpec.witness6 (enc := enc) (C := Try.checked) false ⟨#[], #[.int .i64 0, .int .i64 0, .slice none 0 0, .agg #[.int .u64 0, .int .u64 0, .bool false, .int .i64 0]], []⟩ 8 (by kernel_rfl) (by kernel_rfl) (by kernel_rfl) (by kernel_rfl)) ?_
  intro W base args ds gs before hval0 hW hcnd _
  have hval : ∀ (j : Nat) t v, Try.f7.params[j]? = some t → args[j]? = some v → Value.okWide Try.prog W .any base t v := hval0
  have hW' := hW
  obtain ⟨p, q, hA0, hV, rfl, hfz, hnd⟩ := hW
  have hA : DataW.TrodAll enc Try.prog W 0 (fun _ => true) true Try.f7.params.toList args.toList ds p := hA0
  rw [Try.params7] at hA hval
  obtain ⟨v0, vs0, d0, ds0, p0, q0, hargs, rfl, rfl, h0, r0⟩ := trodAll_cons hA
  obtain ⟨v1, vs1, d1, ds1, p1, q1, rfl, rfl, rfl, h1, r1⟩ := trodAll_cons r0
  obtain ⟨v2, vs2, d2, ds2, p2, q2, rfl, rfl, rfl, h2, r2⟩ := trodAll_cons r1
  obtain ⟨v3, vs3, d3, ds3, p3, q3, rfl, rfl, rfl, h3, r3⟩ := trodAll_cons r2
  obtain ⟨rfl, rfl, rfl⟩ := trodAll_nil r3
  obtain rfl : args = #[v0, v1, v2, v3] := by cases args; simp_all
  obtain ⟨rfl, rfl⟩ := trodVars_none hV
  have lt0 : ∀ x ∈ p0, x.block < W.heap.size := by obtain ⟨m, hm⟩ := h0; exact DataW.trod_lt m _ _ _ hm
  have k0 := h0
  obtain ⟨a0, rfl, e0, f0, w0⟩ := open_int Try.underlying3 (hval 0 3 v0 rfl rfl) h0
  have lt1 : ∀ x ∈ p1, x.block < W.heap.size := by obtain ⟨m, hm⟩ := h1; exact DataW.trod_lt m _ _ _ hm
  have k1 := h1
  obtain ⟨a1, rfl, e1, f1, w1⟩ := open_int Try.underlying3 (hval 1 3 v1 rfl rfl) h1
  have lt2 : ∀ x ∈ p2, x.block < W.heap.size := by obtain ⟨m, hm⟩ := h2; exact DataW.trod_lt m _ _ _ hm
  obtain ⟨A2, cap2, l2, rfl, w2⟩ := open_acs11 (hval 2 22 v2 rfl rfl) h2 (fun _ => rfl)
  have lt3 : ∀ x ∈ p3, x.block < W.heap.size := by obtain ⟨m, hm⟩ := h3; exact DataW.trod_lt m _ _ _ hm
  obtain ⟨a3, rfl, w3⟩ := open_pf (hval 3 27 v3 rfl rfl) h3
  clear hA0 hval0
  refine (apart11_law a0 a1 A2 cap2 l2 a3 W w2).mono fun e W' ⟨he, bel⟩ => ?_
  subst he
  exact ⟨_, rfl, _, _, _, [], _, [], hW', trodAll_mk1 (shut_bool Try.underlying4 _), (trodAll_cons_mk (Below.trod laidOut (by kernel_rfl) (of_decide_eq_true (by kernel_rfl)) h0 bel lt0) (trodAll_cons_mk (Below.trod laidOut (by kernel_rfl) (of_decide_eq_true (by kernel_rfl)) h1 bel lt1) (trodAll_cons_mk (Below.trod laidOut (by kernel_rfl) (of_decide_eq_true (by kernel_rfl)) h2 bel lt2) (trodAll_cons_mk (Below.trod laidOut (by kernel_rfl) (of_decide_eq_true (by kernel_rfl)) h3 bel lt3) trodAll_mk0)))), rfl, bel.frame _, fun h => by cases h⟩

theorem sketchApart_holds : Rows.SketchApartSaid :=
  OpenClaim.holds_of_wide 7 Try.f7 rfl rfl rfl rfl rfl rfl rfl ⟨rfl, rfl, rfl, rfl, rfl⟩ rfl rfl rfl rfl rfl (by kernel_rfl) Try.func7 (by kernel_rfl)
    (of_decide_eq_true (by kernel_rfl)) (by unfold Func.isWrapper; first | (rw [if_pos (by decide +kernel)]; kernel_rfl) | (rw [if_neg (by decide +kernel)]; exact ⟨rfl, rfl⟩))
    (fun os started H enc _ => sketchApart_lifted os started H enc)

end Go.Proofs.Ytpigdjlanabacaa
