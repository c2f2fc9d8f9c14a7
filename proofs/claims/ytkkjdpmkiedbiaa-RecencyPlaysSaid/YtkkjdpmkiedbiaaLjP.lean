/-
  RecencyPlays returns true, and leaves all old memory as it was. No condition.
-/
import Derived.Test.YtkkjdpmkiedbiaaJj
import Derived.Test.YtkkjdpmkiedbiaaReg
import Derived.Deep.CutBlock
import Derived.Deep.DeepCutAuto
namespace Go.Proofs.Ytkkjdpmkiedbiaa
open Go.RowKit
set_option maxRecDepth 100000

theorem keepYJ {W w' : World} {q g o y : Nat} {c0 c1 d u v : Value} (hb : Below W.heap.size W w') (hq : q < W.heap.size) (hg : g < W.heap.size) (x0 : W.cell? ⟨q, 0, none⟩ = some c0) (x1 : W.cell? ⟨q, 1, none⟩ = some c1) (x : W.cell? ⟨g, o, none⟩ = some d) (h1 : q ≠ y) (h2 : g ≠ y) :
    ((w'.setCell ⟨y, 0, none⟩ u).setCell ⟨y, 1, none⟩ v).cell? ⟨q, 0, none⟩ = some c0 ∧ ((w'.setCell ⟨y, 0, none⟩ u).setCell ⟨y, 1, none⟩ v).cell? ⟨q, 1, none⟩ = some c1 ∧ ((w'.setCell ⟨y, 0, none⟩ u).setCell ⟨y, 1, none⟩ v).cell? ⟨g, o, none⟩ = some d := by
  have hq2 : ((w'.setCell ⟨y, 0, none⟩ u).setCell ⟨y, 1, none⟩ v).heap[q]? = W.heap[q]? := by
    rw [Below.heap_setCell _ _ _ _ h1, Below.heap_setCell _ _ _ _ h1]
    exact hb.block q hq
  have hg2 : ((w'.setCell ⟨y, 0, none⟩ u).setCell ⟨y, 1, none⟩ v).heap[g]? = W.heap[g]? := by
    rw [Below.heap_setCell _ _ _ _ h2, Below.heap_setCell _ _ _ _ h2]
    exact hb.block g hg
  exact ⟨(World.cell?_of_block (a := ⟨q, 0, none⟩) hq2).trans x0, (World.cell?_of_block (a := ⟨q, 1, none⟩) hq2).trans x1, (World.cell?_of_block (a := ⟨g, o, none⟩) hg2).trans x⟩
set_option maxHeartbeats 8000000 in
theorem play_law (most : Int) (A : Option Addr) (cap : Nat) (ls : List Ac10) (i0 : Int) (w : World) (hr : KA10.Rd w A ls) :
    Calls Try.prog 3 #[.int .i64 most, .slice A ls.length cap, .int .i64 i0] w fun e w' => e = .returned (.bool true) ∧ Below w.heap.size w w' := by
  have HR := Lib.hid hr
  clear hr
  go_enter Try.func3, Try.ntmps3
  go_wp2_with fail
  refine (awake10_any w).mono ?_
  rintro e w1 ⟨rfl, b1⟩
  have z1 := b1.size
  by_cases hlen : 100 < ls.length
  · have t0 : decide (100 < (ls.length : Int)) = true := by simp; omega
    go_wp2
    go_ret
    exact ⟨rfl, b1⟩
  · have t0 : decide (100 < (ls.length : Int)) = false := by simp; omega
    go_wp2_with fail
    refine (wy_new most w1).mono ?_
    rintro e w2 ⟨t, rfl, h2⟩
    have H2 := Lib.hid h2
    clear h2
    go_wp2_with fail
    refine (rnew10_any most w2).mono ?_
    rintro e w3 ⟨rfl, b3⟩
    have H3 := Lib.hid (H2.out.keep b3)
    have z3 := H3.out.below.size
    clear b3 H2
    go_wp2_with fail
    have hP : PlayJ w1 t w3.heap.size none 0 (Rc.new most) (Rc.new most) (w3.alloc (.cells #[.slice none 0 0, .int .i64 (((Rc.new most).n : Int) - 1)] 28 (0, 0))) :=
      ⟨H3.out.turn ((Below.refl _ _).alloc (Nat.le_refl _) _) (fun b hb => by rcases hb with e | e; exact absurd e (by simp [blkA]); exact .inr (by omega)) (fun b hb => by rcases hb with e | e; exact absurd e (by simp [blkA]); subst e; simp), KN.rd_nil _ _, hp_new rfl, z3, by simp [blkA]⟩
    have HP := Lib.hid hP
    generalize w3.heap.size = q at HP ⊢
    clear hP H3 z3
    generalize Rc.new most = s0 at HP
    go_loopw [10] (fun n wr => ∃ (k : Nat) (A2 : Option Addr) (c : Nat) (s : Rc), k ≤ ls.length ∧ n = .int .i64 k ∧ PlayJ w1 t q A2 c s s wr) (fun n _ => ls.length - (intOf n).toNat)
    case atStart => exact ⟨0, none, 0, s0, by omega, rfl, HP.out⟩
    case round =>
      obtain ⟨k, A2, c, s, hk, rfl, hb⟩ := hrel
      have HK := Lib.hid hb
      clear hb HP
      by_cases hkl : k < ls.length
      · have t2 : decide ((k : Int) < (ls.length : Int)) = true := by simp; omega
        have k2 : (k : Int) < (ls.length : Int) := by omega
        obtain ⟨g, off, rfl, hg, hc⟩ := HR.out (by intro e; rw [e] at hkl; cases hkl)
        have hB1 := b1.trans (HK.out.X.below.mono z1)
        have D := Lib.hid (fun W (hB : Below w.heap.size w W) => And.intro ((hB.cell (p := ⟨g, off + k * 2, none⟩) hg).trans (hc k hkl 0 (by decide))) ((hB.cell (p := ⟨g, off + k * 2 + 1, none⟩) hg).trans (hc k hkl 1 (by decide))))
        generalize ls[k] = a at D
        have D : Hid (∀ W, Below w.heap.size w W → W.cell? ⟨g, off + k * 2, none⟩ = some (.bool a.out) ∧ W.cell? ⟨g, off + k * 2 + 1, none⟩ = some (.int .i64 a.i)) := D
        obtain ⟨d0, d1⟩ := D.out wr hB1
        have hll : s.L.length ≤ 1024 := by obtain ⟨R, h⟩ := HK.out.X.ok; exact h.len.1
        clear hc hB1
        go_wp2_with fail
        refine (do10_any HK.out.X a).mono ?_
        rintro e w4 ⟨rfl, h4, x4⟩
        have HM := Lib.hid (HK.out.mid h4 x4)
        have HB4 := Lib.hid (b1.trans (HM.out.X.below.mono z1))
        obtain ⟨f0, f1⟩ := D.out w4 HB4.out
        have hg4 : g < w4.heap.size := Nat.lt_of_lt_of_le hg HB4.out.size
        have hq4 := lt_of_block HM.out.Q
        obtain ⟨u0, u1, -, -, -⟩ := two10 HM.out.Q
        have hA4 : ∀ b, A2.map (·.block) = some b → b < w4.heap.size := fun b hb => HM.out.X.xlt b (.inl hb)
        have CT := Lib.hid (fun W (hb : Below w4.heap.size w4 W) => rtouch10_any W A2 c s (HM.out.R.kept hb) hll (fun b h => Nat.lt_of_lt_of_le (hA4 b h) hb.size) a.i)
        have HA4 := Lib.hid hA4
        have hsn : (s.act a).n = s.n := act_n s a
        have HSN := Lib.hid hsn
        clear h4 x4 d0 d1 HK hA4 hsn
        go_upto_region 10 with fail
        go_cut [12, 13] (fun b f wx => f = .bool (s.may a.i) ∧ ∃ y, b = .pointer (some ⟨y, 0, none⟩) ∧ StepJ w4 A2 (s.touch a.i).L ((s.n : Int) - 1) y wx)
        case first =>
          go_region_held3 (fun w' => w'.cell? ⟨q, 0, none⟩ = some (.slice A2 s.L.length c) ∧ w'.cell? ⟨q, 1, none⟩ = some (.int .i64 ((s.n : Int) - 1)) ∧ w'.cell? ⟨g, off + k * 2 + 1, none⟩ = some (.int .i64 a.i) ∧ Below w4.heap.size w4 w')
            (first | exact keep3J hk7 hq4 hg4 u0 u1 f1 | (refine keep3J ?_ hq4 hg4 u0 u1 f1; go_grown))
            (first | (go_at_call 12; refine (CT.out _ (by go_grown)).mono ?_; rintro e w7 ⟨A', c', rfl, hR7, hA7, hw7⟩; have hk7 := below_of (w := w4) (by go_grown) hw7; have zk7 := hk7.size; (try (have hy7 := (hw7.block w4.heap.size (by simp)).trans (hp_new rfl); obtain ⟨v0, v1, vf0, vf1, vz⟩ := two10 hy7))))
          · go_wp2_with fail
            go_meet
            case rel =>
              have hb9 : Below w7.heap.size w7 (w7.alloc (.cells #[.slice A' (s.touch a.i).L.length c', .int .i64 ((s.n : Int) - 1)] 28)) := (Below.refl _ _).alloc (Nat.le_refl _) _
              refine ⟨rfl, w7.heap.size, rfl, A', c', hp_new rfl, hk7.size, hR7.kept hb9, fun b hb => ?_, hk7.trans (hb9.mono hk7.size)⟩
              obtain ⟨e1, e2⟩ := hA7 b hb
              refine ⟨e1, by simp; omega, by omega⟩
          · go_wp2_with fail
            go_meet
            case rel =>
              have hne : ∀ b, blkA A' b → b ≠ w4.heap.size := fun b hb e => by
                obtain ⟨e1, e2⟩ := hA7 b hb
                rcases e1 with e1 | e1
                · have := HA4.out b e1
                  omega
                · simp at e1
                  omega
              refine ⟨rfl, w4.heap.size, rfl, A', c', row2_set10 hy7, Nat.le_refl _, rd_far (p := ⟨w4.heap.size, 1, none⟩) (rd_far (p := ⟨w4.heap.size, 0, none⟩) hR7 hne _) hne _, fun b hb => ?_, below_put2 hk7 (Nat.le_refl _)⟩
              obtain ⟨e1, e2⟩ := hA7 b hb
              refine ⟨e1.imp id (fun h => by simp at h; omega), by simpa [World.setCell] using e2, hne b hb⟩
        case rest =>
          obtain ⟨rfl, y, rfl, hS⟩ := hcut
          have HS := Lib.hid hS
          obtain ⟨A', c', hy, hyz, hRc, hgc, hbc⟩ := hS
          have d0 := (D.out wc (HB4.out.trans (hbc.mono HB4.out.size))).1
          clear hy hRc hgc u0 u1 f0 f1 CT hyz hbc
          go_upto_if 53 with fail
          go_cut [13] (fun f wx => f = .bool (s.acts a) ∧ StepJ w4 A2 (s.act a).L ((s.n : Int) - 1) y wx)
          case first =>
            cases ho : a.out
            · rw [ho] at d0
              have hL : (s.act a).L = (s.touch a.i).L ∧ s.acts a = s.may a.i := by unfold Rc.act Rc.acts; rw [ho]; exact ⟨rfl, rfl⟩
              have HL := Lib.hid hL
              clear hL ho
              go_wp2_with fail
              go_meet
              case rel => exact ⟨by rw [HL.out.2], by rw [HL.out.1]; exact HS.out⟩
            · have hL : (s.act a).L = (s.drop a.i).L ∧ s.acts a = s.has a.i := by unfold Rc.act Rc.acts; rw [ho]; exact ⟨rfl, rfl⟩
              have HL := Lib.hid hL
              obtain ⟨A', c', hy, hyz, hRc, hgc, hbc⟩ := HS.out
              have hMc := HM.out.keep hbc
              obtain ⟨u0, u1, -, -, -⟩ := two10 hMc.Q
              obtain ⟨f0, f1⟩ := D.out wc (HB4.out.trans (hbc.mono HB4.out.size))
              have hqc := lt_of_block hMc.Q
              have hgc' : g < wc.heap.size := Nat.lt_of_lt_of_le hg4 hbc.size
              have CD := Lib.hid (fun W (hb : Below wc.heap.size wc W) => rdrop10_any W A2 c s (hMc.R.kept hb) hll (fun b h => Nat.lt_of_lt_of_le (Nat.lt_of_lt_of_le (HA4.out b h) hbc.size) hb.size) a.i)
              have HY := Lib.hid hy
              have HBC := Lib.hid hbc
              have zc := hbc.size
              rw [ho] at d0
              have hyc := lt_of_block hy
              have hqy : q ≠ y := by omega
              have hgy : g ≠ y := by omega
              clear hL ho hy hRc hgc hbc hMc
              go_wp2_with fail
              go_region_held3 (fun w' => w'.cell? ⟨q, 0, none⟩ = some (.slice A2 s.L.length c) ∧ w'.cell? ⟨q, 1, none⟩ = some (.int .i64 ((s.n : Int) - 1)) ∧ w'.cell? ⟨g, off + k * 2 + 1, none⟩ = some (.int .i64 a.i))
                (first | exact ⟨(hk7.cell (p := ⟨q, 0, none⟩) hqc).trans u0, (hk7.cell (p := ⟨q, 1, none⟩) hqc).trans u1, (hk7.cell (p := ⟨g, off + k * 2 + 1, none⟩) hgc').trans f1⟩ | exact keepYJ hk7 hqc hgc' u0 u1 f1 hqy hgy | go_keep)
                (first | (go_at_call 13; refine (CD.out _ (by go_grown)).mono ?_; rintro e w7 ⟨A3, c3, rfl, hR7, hA7, hw7⟩; have hk7 := below_of (w := wc) (by go_grown) hw7; have zk7 := hk7.size; have hy7 := (hk7.block y hyc).trans HY.out; obtain ⟨v0, v1, vf0, vf1, vz⟩ := two10 hy7))
              all_goals
                go_wp2_with fail
                go_meet
                case rel =>
                  have hne : ∀ b, blkA A3 b → b ≠ y := fun b hb e => by
                    obtain ⟨e1, e2⟩ := hA7 b hb
                    rcases e1 with e1 | e1
                    · have := HA4.out b e1
                      omega
                    · simp at e1
                      omega
                  rw [HL.out.2, HL.out.1]
                  refine ⟨rfl, A3, c3, row2_set10 hy7, hyz, rd_far (p := ⟨y, 1, none⟩) (rd_far (p := ⟨y, 0, none⟩) hR7 hne _) hne _, fun b hb => ?_, below_put2 (HBC.out.trans (hk7.mono zc)) hyz⟩
                  obtain ⟨e1, e2⟩ := hA7 b hb
                  refine ⟨e1.imp id (fun h => by simp at h; omega), by simpa [World.setCell] using e2, hne b hb⟩
          case rest =>
            obtain ⟨rfl, A', c', hy, hyz, hRc, hgc, hbc⟩ := hcut
            have hfin := HM.out.fin (c' := c') HSN.out hbc hRc (fun b hb => ⟨(hgc b hb).1, (hgc b hb).2.1⟩)
            have hMc := HM.out.keep hbc
            obtain ⟨u0, u1, uf0, uf1, uz⟩ := two10 hMc.Q
            obtain ⟨v0, v1, -, -, vz⟩ := two10 hy
            have hyq : ¬ y = q := by omega
            have HF := Lib.hid hfin
            clear hfin hMc hy hRc hgc hbc HS HM d0
            go_upto_region 14 with fail
            generalize hX : World.setCell (World.setCell _ _ _) _ _ = X at HF ⊢
            generalize s.act a = s' at HF ⊢
            clear u0 u1 uf0 uf1 v0 v1 hX HSN
            generalize s.acts a = ok
            have hls : s'.L.length ≤ 1024 := by obtain ⟨R, h⟩ := HF.out.X.ok; exact h.len.1
            go_wp2_with fail
            refine (wy_last HF.out.X).mono ?_
            rintro e w8 ⟨rfl, b8⟩
            have H8 := Lib.hid (HF.out.keep b8)
            clear b8 HF
            obtain ⟨u0, u1, -, -, uz⟩ := two10 H8.out.Q
            go_wp2_with fail
            refine (rlast10_any w8 A' c' s' ((s'.n : Int) - 1) H8.out.R hls).mono ?_
            rintro e w9 ⟨rfl, b9⟩
            have H9 := Lib.hid (H8.out.keep b9)
            clear b9 H8 u0 u1 uz
            obtain ⟨u0, u1, -, -, uz⟩ := two10 H9.out.Q
            have HB9 := Lib.hid (b1.trans (H9.out.X.below.mono z1))
            have f1 := (D.out w9 HB9.out).2
            have hg9 : g < w9.heap.size := Nat.lt_of_lt_of_le hg HB9.out.size
            obtain ⟨W, rfl⟩ : ∃ W, W = w9 := ⟨_, rfl⟩
            have CO := Lib.hid (fun V (hb : Below W.heap.size W V) => wy_order (H9.out.X.keep hb))
            have CE := Lib.hid (fun V (hb : Below W.heap.size W V) => wy_len (H9.out.X.keep hb))
            have CH := Lib.hid (fun V (hb : Below W.heap.size W V) i => wy_has (H9.out.X.keep hb) i)
            have RH := Lib.hid (fun V (hb : Below W.heap.size W V) i => rhas10_any V A' c' s'.L ((s'.n : Int) - 1) (H9.out.R.kept hb) hls i)
            have RK := Lib.hid (fun V (hb : Below W.heap.size W V) => H9.out.R.kept hb)
            have EH : Hid (∀ i, hasL s'.L i = s'.has i) := Lib.hid (fun i => rfl)
            simp only [EH.out] at RH
            have hls9 : s'.L.length ≤ 100000000 := by omega
            clear EH
            go_wp2_with fail
            go_region_held3 (fun w' => w'.cell? ⟨q, 0, none⟩ = some (.slice A' s'.L.length c') ∧ w'.cell? ⟨q, 1, none⟩ = some (.int .i64 ((s'.n : Int) - 1)) ∧ w'.cell? ⟨g, off + k * 2 + 1, none⟩ = some (.int .i64 a.i) ∧ Below W.heap.size W w')
              (first | exact keep3J hkd uz hg9 u0 u1 f1 | exact keep3J hkc uz hg9 u0 u1 f1 | exact keep3J hkb uz hg9 u0 u1 f1 | exact keep3J hka uz hg9 u0 u1 f1 | (refine keep3J ?_ uz hg9 u0 u1 f1; go_grown))
              (first
                | (go_at_call 17; refine (CO.out _ (by go_grown)).mono ?_; rintro e wa ⟨A9, c9, rfl, ho9, hw⟩; have hka := below_of (w := W) (by go_grown) hw; have R9 := Lib.hid (NatsPost.rd ho9).1; clear ho9 hw)
                | (go_at_call 16; refine (ints9_any s'.L A9 A' c9 c' _ R9.out (RK.out _ hka) hls9).mono ?_; rintro e wb ⟨rfl, hw⟩; have hkb := hka.trans (hw.mono hka.size); clear hw)
                | (go_at_call 18; refine (CE.out _ hkb).mono ?_; rintro e wd ⟨rfl, rfl⟩)
                | (go_at_call 19; refine (CH.out _ hkc _).mono ?_; rintro e wd ⟨rfl, rfl⟩)
                | (go_at_call 19; refine (CH.out _ hkb _).mono ?_; rintro e wd ⟨rfl, rfl⟩)
                | (go_at_call 20; refine (RH.out _ hkc _).mono ?_; rintro e wd ⟨rfl, hw⟩; have hkd := hkc.trans (hw.mono hkc.size); clear hw)
                | (go_at_call 20; refine (RH.out _ hkb _).mono ?_; rintro e wc ⟨rfl, hw⟩; have hkc := hkb.trans (hw.mono hkb.size); clear hw))
            all_goals
              have HE := Lib.hid (H9.out.keep hkd)
              go_wp2_with fail
              go_roundw
              case rel => exact ⟨k + 1, A', c', s', by omega, by go_num, HE.out⟩
              case measure => simp [intOf]; omega
      · have hke : k = ls.length := by omega
        subst hke
        have t2 : decide ((ls.length : Int) < (ls.length : Int)) = false := by simp
        have hB1 := b1.trans (HK.out.X.below.mono z1)
        obtain ⟨u0, u1, -, -, uz⟩ := two10 HK.out.Q
        have U0 := fun x : Later wr.heap.size wr => (x.cell (p := ⟨q, 0, none⟩) uz).trans u0
        have CE := Lib.hid (fun x : Later wr.heap.size wr => wy_len (HK.out.X.keep x.below))
        have HB1 := Lib.hid hB1
        clear u0 u1 uz hB1
        go_wp2_with fail
        refine region_later wr.heap.size (by kernel_rfl) (by kernel_rfl) ?_
        repeat (go_big_quiet_step ((go_at_call 18; exact later_same (CE.out _))))
        refine wpQuiet_nil ?_
        intro x
        have hx := x.below
        clear U0
        generalize x.at = w6 at *
        clear x
        go_wp2
        go_ret
        exact ⟨rfl, HB1.out.trans (hx.mono HB1.out.size)⟩

end Go.Proofs.Ytkkjdpmkiedbiaa
