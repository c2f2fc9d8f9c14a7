/-
  RecencyOrder returns true, and leaves all old memory as it was. No condition.
-/
import Derived.Test.YtkkjdpmkiedbiaaJg
namespace Go.Proofs.Ytkkjdpmkiedbiaa
open Go.RowKit
set_option maxRecDepth 100000

theorem rd_block' {w w' : World} {A : Option Addr} {l : List Nat} (h : KN.Rd w A l) (hA : ∀ b, A.map (·.block) = some b → w'.heap[b]? = w.heap[b]?) : KN.Rd w' A l := fun hn => by
  obtain ⟨g, off, e, hg, hc⟩ := h hn
  subst e
  have hb := hA g rfl
  refine ⟨g, off, rfl, ?_, fun i hi j hj => ?_⟩
  · have := (Array.getElem?_eq_some_iff.1 (hb.trans (Array.getElem?_eq_getElem hg))).1
    exact this
  · exact (World.cell?_of_block (w := w) hb).trans (hc i hi j hj)
theorem rd_at {w : World} {A : Option Addr} {l : List Nat} (h : KN.Rd w A l) {k : Nat} (hk : k < l.length) : ∃ g off, A = some ⟨g, off, none⟩ ∧ ∀ w', Below w.heap.size w w' → w'.cell? ⟨g, off + k, none⟩ = some (.int .i64 (l[k] : Int)) ∧ g < w'.heap.size := by
  obtain ⟨g, off, e, hg, hc⟩ := KN_rd h hk
  exact ⟨g, off, e, fun w' hb => ⟨(hb.cell (p := ⟨g, off + k, none⟩) hg).trans hc, Nat.lt_of_lt_of_le hg hb.size⟩⟩

set_option maxHeartbeats 8000000 in
theorem order_law (most : Int) (A : Option Addr) (cap : Nat) (ls : List Ac10) (w : World) (hr : KA10.Rd w A ls) :
    Calls Try.prog 5 #[.int .i64 most, .slice A ls.length cap] w fun e w' => e = .returned (.bool true) ∧ Below w.heap.size w w' := by
  have HR := Lib.hid hr
  clear hr
  obtain ⟨M, hM, hM32⟩ : ∃ M : Nat, bits .and .i64 most 31 = (M : Int) ∧ M ≤ 31 := ⟨(most % 32).toNat, by rw [i64_and5]; omega, by omega⟩
  go_enter Try.func5, Try.ntmps5
  go_wp2_with fail
  refine (awake10_any w).mono ?_
  rintro e w1 ⟨rfl, b1⟩
  have z1 := b1.size
  by_cases hlen : 100 < ls.length
  · have t0 : decide (100 < (ls.length : Int)) = true := by simp; omega
    go_wp2
    go_ret
    exact ⟨rfl, b1⟩
  · have t0 : decide (100 < (ls.length : Int)) = false := by simp; omega
    go_wp2_with fail
    refine (wy_new (M : Int) w1).mono ?_
    rintro e w2 ⟨t, rfl, h2⟩
    have H2 := Lib.hid h2
    clear h2
    have hn0 : (Rc.new (M : Int)).n = M + 1 := by simp only [Rc.new]; omega
    go_wp2_with fail
    go_loopw [7] (fun n wr => ∃ (k : Nat) (s : Rc), k ≤ ls.length ∧ n = .int .i64 k ∧ s.n = M + 1 ∧ WY noX w1 t s wr) (fun n _ => ls.length - (intOf n).toNat)
    case atStart => exact ⟨0, _, by omega, rfl, hn0, H2.out⟩
    case round =>
      obtain ⟨k, s, hk, rfl, hsn, hb⟩ := hrel
      have HK := Lib.hid hb
      have HSN := Lib.hid hsn
      clear hb H2 hsn
      by_cases hkl : k < ls.length
      · have t2 : decide ((k : Int) < (ls.length : Int)) = true := by simp; omega
        obtain ⟨g, off, rfl, hg, hc⟩ := HR.out (by intro e; rw [e] at hkl; cases hkl)
        have hB1 := b1.trans (HK.out.below.mono z1)
        have D := Lib.hid (fun W (hB : Below w.heap.size w W) => And.intro ((hB.cell (p := ⟨g, off + k * 2, none⟩) hg).trans (hc k hkl 0 (by decide))) ((hB.cell (p := ⟨g, off + k * 2 + 1, none⟩) hg).trans (hc k hkl 1 (by decide))))
        generalize ls[k] = a at D
        have D : Hid (∀ W, Below w.heap.size w W → W.cell? ⟨g, off + k * 2, none⟩ = some (.bool a.out) ∧ W.cell? ⟨g, off + k * 2 + 1, none⟩ = some (.int .i64 a.i)) := D
        clear hc
        go_wp2_with fail
        refine (wy_order HK.out).mono ?_
        rintro e w3 ⟨A3, c3, rfl, ho3, b3⟩
        have H3 := Lib.hid (HK.out.turn (X' := fun b => A3.map (·.block) = some b) b3 (fun b hb => .inr (own_at ho3 hb).1) (fun b hb => (own_at ho3 hb).2.1))
        have R3 := Lib.hid (NatsPost.rd ho3).1
        have hB3 := hB1.trans (b3.mono (by have := hB1.size; omega))
        obtain ⟨d0, d1⟩ := D.out w3 hB3
        have hll : s.L.length ≤ 1024 := by obtain ⟨R, h⟩ := HK.out.ok; exact h.len.1
        clear ho3 b3 hB1
        go_wp2_with fail
        refine (do10_any H3.out a).mono ?_
        rintro e w4 ⟨rfl, h4, x4⟩
        have R4 := Lib.hid (rd_block' R3.out x4)
        have H4 := Lib.hid h4
        clear h4 x4 d0 d1 hB3 H3 R3
        go_wp2_with fail
        refine (wy_order H4.out).mono ?_
        rintro e w5 ⟨A5, c5, rfl, ho5, b5⟩
        have H5 := Lib.hid (H4.out.turn (X' := noX) b5 (fun b hb => hb.elim) (fun b hb => hb.elim))
        have R5 := Lib.hid (NatsPost.rd ho5).1
        have R45 := Lib.hid (R4.out.kept b5)
        have hB5 := b1.trans (H5.out.below.mono z1)
        have HB5 := Lib.hid hB5
        obtain ⟨R, hok⟩ := H4.out.ok
        have hls : (s.act a).L.length ≤ 1024 := hok.len.1
        have HW := Lib.hid (act_wout s a)
        have HN : Hid ((s.act a).L.length = (wout s.L a.i).length + (if a.out = false ∧ s.acts a = true then 1 else 0)) := Lib.hid (by obtain ⟨R, h⟩ := HK.out.ok; exact act_cnt h a)
        have HF := Lib.hid (fun h1 h2 => act_first (s := s) (a := a) h1 h2)
        have HNO := Lib.hid (fun h1 => act_no (s := s) (a := a) h1)
        have HSN' : Hid ((s.act a).n = M + 1) := Lib.hid ((act_n s a).trans HSN.out)
        clear ho5 b5 H4 R4 hok hB5 HK
        generalize s.act a = s' at *
        generalize s.acts a = ok at *
        go_wp2_with fail
        go_loopw [11, 13] (fun x n wr => ∃ j : Nat, n = .int .i64 j ∧ FltRel w5 s.L a.i j x wr) (fun _ n _ => s.L.length - (intOf n).toNat)
        case atStart => exact ⟨0, rfl, 0, none, 0, Nat.zero_le _, rfl, rfl, World.ownsRow_nil _ _ _ _, Below.refl _ _⟩
        case round =>
          obtain ⟨j, rfl, m, Ax, cx, hj, hm, rfl, hox, hbx⟩ := hrel
          have HO := Lib.hid hox
          have HB := Lib.hid hbx
          have HM := Lib.hid hm
          have hm9 : m ≤ j := by rw [hm]; exact Nat.le_trans (wout_le _ _) (by simp; omega)
          clear hox hm
          by_cases hlt : j < s.L.length
          · have t3 : decide ((j : Int) < (s.L.length : Int)) = true := by simp; omega
            obtain ⟨g3, off3, rfl, h3⟩ := rd_at R45.out hlt
            have HT := Lib.hid (wout_succ s.L a.i j hlt)
            have E0 := fun x : Later wr.heap.size wr => (h3 x.at (hbx.trans (x.below.mono hbx.size))).1
            have E1 := fun x : Later wr.heap.size wr => (D.out x.at (HB5.out.trans ((hbx.trans (x.below.mono hbx.size)).mono HB5.out.size))).2
            have E2 := Lib.hid (fun W (hW : Below wr.heap.size wr W) => (h3 W (hbx.trans (hW.mono hbx.size))))
            generalize s.L[j] = y at E0 HT E2
            have k3 : (j : Int) < (s.L.length : Int) := by omega
            clear h3 hbx
            go_wp2_with fail
            refine region_later wr.heap.size (by kernel_rfl) (by kernel_rfl) ?_
            repeat (go_big_quiet_step (fail))
            refine wpQuiet_nil ?_
            intro x
            have hx := x.below
            clear E0 E1
            generalize x.at = w6 at *
            clear x
            by_cases hy : (y : Int) = a.i
            · have t4 : ((y : Int) == a.i) = true := by simp [hy]
              rw [if_pos hy] at HT
              clear hy
              go_wp2
              go_roundw
              case rel => exact ⟨j + 1, by go_num, m, Ax, cx, by omega, by rw [HT.out]; exact HM.out, rfl, by rw [HT.out]; exact own_block HO.out (fun b _ hl => hx.block b hl), HB.out.trans (hx.mono HB.out.size)⟩
              case measure => simp [intOf]; omega
            · have t4 : ((y : Int) == a.i) = false := by simp [hy]
              rw [if_neg hy] at HT
              clear hy
              have e3 := (E2.out w6 hx).1
              have HO6 := Lib.hid (own_block HO.out (fun b _ hl => hx.block b hl))
              have HB6 := Lib.hid (HB.out.trans (hx.mono HB.out.size))
              have z6 := HB6.out.size
              go_wp2_with (
                at_builtin
                refine Kd.wpList_one KN_ty rfl (.tmp 56) (.tmp 61) rfl w5.heap.size _ m _ HM.out (by rfl) (HO6.out.alloc _) w6.heap.size y (by rfl) (hp_new rfl) (by omega) (by simp; omega) ?_
                intro A' c' w7 hG
                have HG := Lib.hid hG
                clear hG
                )
              go_roundw
              case rel => exact ⟨j + 1, by go_num, m + 1, A', c', by omega, by rw [HT.out]; simp [HM.out], rfl, by rw [HT.out]; exact HG.out.1, (HB6.out.alloc z6 _).trans HG.out.2.2.2⟩
              case measure => simp [intOf]; omega
          · have hjl : j = s.L.length := by omega
            subst hjl
            have t3 : decide ((s.L.length : Int) < (s.L.length : Int)) = false := by simp
            rw [show s.L.take s.L.length = s.L from List.take_of_length_le (Nat.le_refl _)] at HO HM
            obtain ⟨Ay, cy, ey, -, ry, ly⟩ := KN.rd_own HO.out HM.out
            simp only [Value.slice.injEq, true_and] at ey
            obtain ⟨rfl, rfl⟩ := ey
            have RX := Lib.hid ry
            have R48 := Lib.hid (R45.out.kept hbx)
            have R58 := Lib.hid (R5.out.kept hbx)
            have H8 := Lib.hid (H5.out.keep hbx)
            have HB8 := Lib.hid (HB5.out.trans (hbx.mono HB5.out.size))
            clear hbx ry ly HO H5 R45 R5 HB5 HB
            go_wp2_with fail
            generalize wr = w8 at *
            go_loopw [12, 14, 15] (fun y c n wr => ∃ j : Nat, n = .int .i64 j ∧ c = .int .i64 ((j : Int) - ((wout (s'.L.take j) a.i).length : Int)) ∧ FltRel w8 s'.L a.i j y wr) (fun _ _ n _ => s'.L.length - (intOf n).toNat)
            case atStart => exact ⟨0, rfl, rfl, 0, none, 0, Nat.zero_le _, rfl, rfl, World.ownsRow_nil _ _ _ _, Below.refl _ _⟩
            case round =>
              obtain ⟨j, rfl, rfl, m2, Ay, cy, hj, hm, rfl, hox, hbx⟩ := hrel
              have HO := Lib.hid hox
              have HB := Lib.hid hbx
              have HM2 := Lib.hid hm
              rw [← hm]
              have hm9 : m2 ≤ j := by rw [hm]; exact Nat.le_trans (wout_le _ _) (by simp; omega)
              clear hox hm
              by_cases hlt : j < s'.L.length
              · have t3 : decide ((j : Int) < (s'.L.length : Int)) = true := by simp; omega
                obtain ⟨g3, off3, rfl, h3⟩ := rd_at R58.out hlt
                have HT := Lib.hid (wout_succ s'.L a.i j hlt)
                have E0 := fun x : Later wr.heap.size wr => (h3 x.at (hbx.trans (x.below.mono hbx.size))).1
                have E1 := fun x : Later wr.heap.size wr => (D.out x.at (HB8.out.trans ((hbx.trans (x.below.mono hbx.size)).mono HB8.out.size))).2
                have E2 := Lib.hid (fun W (hW : Below wr.heap.size wr W) => (h3 W (hbx.trans (hW.mono hbx.size))))
                generalize s'.L[j] = y at E0 HT E2
                have k3 : (j : Int) < (s'.L.length : Int) := by omega
                clear h3 hbx
                go_wp2_with fail
                refine region_later wr.heap.size (by kernel_rfl) (by kernel_rfl) ?_
                repeat (go_big_quiet_step (fail))
                refine wpQuiet_nil ?_
                intro x
                have hx := x.below
                clear E0 E1
                generalize x.at = w6 at *
                clear x
                by_cases hy : (y : Int) = a.i
                · have t4 : ((y : Int) == a.i) = true := by simp [hy]
                  rw [if_pos hy] at HT
                  clear hy
                  go_wp2
                  go_roundw
                  case rel => exact ⟨j + 1, by go_num, by rw [HT.out, ← HM2.out]; go_num, m2, Ay, cy, by omega, by rw [HT.out]; exact HM2.out, rfl, by rw [HT.out]; exact own_block HO.out (fun b _ hl => hx.block b hl), HB.out.trans (hx.mono HB.out.size)⟩
                  case measure => simp [intOf]; omega
                · have t4 : ((y : Int) == a.i) = false := by simp [hy]
                  rw [if_neg hy] at HT
                  clear hy
                  have e3 := (E2.out w6 hx).1
                  have HO6 := Lib.hid (own_block HO.out (fun b _ hl => hx.block b hl))
                  have HB6 := Lib.hid (HB.out.trans (hx.mono HB.out.size))
                  have z6 := HB6.out.size
                  go_wp2_with (
                    at_builtin
                    refine Kd.wpList_one KN_ty rfl (.tmp 79) (.tmp 84) rfl w8.heap.size _ m2 _ HM2.out (by rfl) (HO6.out.alloc _) w6.heap.size y (by rfl) (hp_new rfl) (by omega) (by simp; omega) ?_
                    intro A' c' w7 hG
                    have HG := Lib.hid hG
                    clear hG
                    )
                  go_roundw
                  case rel => exact ⟨j + 1, by go_num, by rw [HT.out, List.length_append, ← HM2.out]; simp only [List.length_cons, List.length_nil]; go_num, m2 + 1, A', c', by omega, by rw [HT.out]; simp [HM2.out], rfl, by rw [HT.out]; exact HG.out.1, (HB6.out.alloc z6 _).trans HG.out.2.2.2⟩
                  case measure => simp [intOf]; omega
              · have hjl : j = s'.L.length := by omega
                subst hjl
                have t3 : decide ((s'.L.length : Int) < (s'.L.length : Int)) = false := by simp
                rw [show s'.L.take s'.L.length = s'.L from List.take_of_length_le (Nat.le_refl _)] at HO HM2
                obtain ⟨Az, cz, ez, -, ry, ly⟩ := KN.rd_own HO.out HM2.out
                simp only [Value.slice.injEq, true_and] at ez
                obtain ⟨rfl, rfl⟩ := ez
                have hm2 : m2 = m := by rw [HM.out, HM2.out, HW.out]
                subst hm2
                rw [HW.out] at ry
                have RY := Lib.hid ry
                have RX9 := Lib.hid (RX.out.kept hbx)
                have R49 := Lib.hid (R48.out.kept hbx)
                have R59 := Lib.hid (R58.out.kept hbx)
                have H9 := Lib.hid (H8.out.keep hbx)
                have HB9 := Lib.hid (HB8.out.trans (hbx.mono HB8.out.size))
                have hbz := hbx.size
                clear hbx ry ly HO R48 R58 H8 HB8 HB RX HM2
                go_wp2_with fail
                have C1 : Hid (∀ x : Later wr.heap.size wr, Calls Try.prog 16 #[.slice Ax m2 cx, .slice Ay m2 cy] x.at fun e w' => e = .returned (.bool true) ∧ Below x.at.heap.size x.at w') := Lib.hid (fun x => by
                  have := ints9_any (wout s.L a.i) Ax Ay cx cy x.at (RX9.out.kept x.below) (RY.out.kept x.below) (by have := wout_le s.L a.i; omega)
                  rw [← HM.out] at this
                  exact this)
                have E0 := fun x : Later wr.heap.size wr => (D.out x.at (HB9.out.trans (x.below.mono HB9.out.size))).1
                have hnl := HN.out
                rw [← HM.out] at hnl
                cases ho : a.out
                · rw [ho] at E0
                  cases hok : ok
                  · have hss := HNO.out hok
                    subst hss
                    rw [ho, hok] at hnl
                    have hnv : (s'.L.length : Int) - (m2 : Int) = 0 := by simp at hnl; omega
                    rw [hnv]
                    have C2 : Hid (∀ x : Later wr.heap.size wr, Calls Try.prog 16 #[.slice A3 s'.L.length c3, .slice A5 s'.L.length c5] x.at fun e w' => e = .returned (.bool true) ∧ Below x.at.heap.size x.at w') := Lib.hid (fun x => ints9_any s'.L A3 A5 c3 c5 x.at (R49.out.kept x.below) (R59.out.kept x.below) (by omega))
                    clear hnl hnv ho
                    refine region_later wr.heap.size (by kernel_rfl) (by kernel_rfl) ?_
                    try simp only [List.append_eq, List.cons_append, List.nil_append]
                    repeat (go_big_quiet_step (first | (go_at_call 16; first | with_reducible exact later_of (Nat.le_refl _) (C1.out _) | with_reducible exact later_of (Nat.le_refl _) (C2.out _))))
                    refine wpQuiet_nil ?_
                    intro x
                    have hx := x.below
                    generalize x.at = w6 at *
                    clear x E0
                    have HE := Lib.hid (H9.out.keep hx)
                    go_wp2
                    go_roundw
                    case rel => exact ⟨k + 1, s', by omega, by go_num, HSN'.out, HE.out⟩
                    case measure => simp [intOf]; omega
                  · obtain ⟨hL, h0⟩ := HF.out hok ho
                    rw [ho, hok] at hnl
                    have hnv : (s'.L.length : Int) - (m2 : Int) = 1 := by simp at hnl; omega
                    rw [hnv]
                    have hpos : 0 < s'.L.length := by rw [hL]; simp
                    have C2 := C1
                    obtain ⟨g5, off5, rfl, h5⟩ := rd_at R59.out hpos
                    have e5 : ((s'.L[0] : Nat) : Int) = a.i := by simp only [hL, List.getElem_cons_zero]; omega
                    rw [e5] at h5
                    have E1 := fun x : Later wr.heap.size wr => (D.out x.at (HB9.out.trans (x.below.mono HB9.out.size))).2
                    have E5 : ∀ x : Later wr.heap.size wr, x.at.cell? ⟨g5, off5, none⟩ = some (.int .i64 a.i) := fun x => (h5 x.at x.below).1
                    have t5 : ((s'.L.length : Int) == 0) = false := by simp; intro e; rw [e] at hpos; simp at hpos
                    have t6 : (0 : Int) < (s'.L.length : Int) := by omega
                    clear hnl hnv ho hL h0 hpos e5 h5
                    refine region_later wr.heap.size (by kernel_rfl) (by kernel_rfl) ?_
                    try simp only [List.append_eq, List.cons_append, List.nil_append]
                    repeat (go_big_quiet_step (first | (go_at_call 16; first | with_reducible exact later_of (Nat.le_refl _) (C1.out _) | with_reducible exact later_of (Nat.le_refl _) (C2.out _))))
                    refine wpQuiet_nil ?_
                    intro x
                    have hx := x.below
                    generalize x.at = w6 at *
                    clear x E0
                    have HE := Lib.hid (H9.out.keep hx)
                    go_wp2
                    go_roundw
                    case rel => exact ⟨k + 1, s', by omega, by go_num, HSN'.out, HE.out⟩
                    case measure => simp [intOf]; omega
                · rw [ho] at E0
                  rw [ho] at hnl
                  have hnv : (s'.L.length : Int) - (m2 : Int) = 0 := by simp at hnl; omega
                  rw [hnv]
                  cases hok : ok
                  · have hss := HNO.out hok
                    subst hss
                    have C2 : Hid (∀ x : Later wr.heap.size wr, Calls Try.prog 16 #[.slice A3 s'.L.length c3, .slice A5 s'.L.length c5] x.at fun e w' => e = .returned (.bool true) ∧ Below x.at.heap.size x.at w') := Lib.hid (fun x => ints9_any s'.L A3 A5 c3 c5 x.at (R49.out.kept x.below) (R59.out.kept x.below) (by omega))
                    clear hnl hnv ho
                    refine region_later wr.heap.size (by kernel_rfl) (by kernel_rfl) ?_
                    try simp only [List.append_eq, List.cons_append, List.nil_append]
                    repeat (go_big_quiet_step (first | (go_at_call 16; first | with_reducible exact later_of (Nat.le_refl _) (C1.out _) | with_reducible exact later_of (Nat.le_refl _) (C2.out _))))
                    refine wpQuiet_nil ?_
                    intro x
                    have hx := x.below
                    generalize x.at = w6 at *
                    clear x E0
                    have HE := Lib.hid (H9.out.keep hx)
                    go_wp2
                    go_roundw
                    case rel => exact ⟨k + 1, s', by omega, by go_num, HSN'.out, HE.out⟩
                    case measure => simp [intOf]; omega
                  · have C2 := C1
                    clear hnl hnv ho
                    refine region_later wr.heap.size (by kernel_rfl) (by kernel_rfl) ?_
                    try simp only [List.append_eq, List.cons_append, List.nil_append]
                    repeat (go_big_quiet_step (first | (go_at_call 16; first | with_reducible exact later_of (Nat.le_refl _) (C1.out _) | with_reducible exact later_of (Nat.le_refl _) (C2.out _))))
                    refine wpQuiet_nil ?_
                    intro x
                    have hx := x.below
                    generalize x.at = w6 at *
                    clear x E0
                    have HE := Lib.hid (H9.out.keep hx)
                    go_wp2
                    go_roundw
                    case rel => exact ⟨k + 1, s', by omega, by go_num, HSN'.out, HE.out⟩
                    case measure => simp [intOf]; omega
      · have hkl' : k = ls.length := by omega
        subst hkl'
        have t2 : decide ((ls.length : Int) < (ls.length : Int)) = false := by simp
        have hB1 := b1.trans (HK.out.below.mono z1)
        have hlen2 : s.L.length ≤ M := by
          obtain ⟨R, h⟩ := HK.out.ok
          have := h.len2
          rw [HSN.out] at this
          simpa using this
        go_wp2_with fail
        refine (wy_order HK.out).mono ?_
        rintro e w3 ⟨A3, c3, rfl, ho3, b3⟩
        clear ho3
        have t7 : decide ((s.L.length : Int) ≤ (M : Int)) = true := by simp; omega
        have HE := Lib.hid (hB1.trans (b3.mono hB1.size))
        go_wp2
        go_ret
        exact ⟨rfl, HE.out⟩

end Go.Proofs.Ytkkjdpmkiedbiaa
