/-
  SlotsApart returns true, and leaves all old memory as it was. Condition: the list lies where the argument says.
-/
import Derived.Test.YtebgkoimphjagaaSg
import Derived.Test.YtebgkoimphjagaaRowS
namespace Go.Proofs.Ytebgkoimphjagaa
open Go.RowKit
set_option maxRecDepth 100000

/-- The places, and the client's own book of them, which lies at block q. -/
def Book (w0 : World) (t q M : Nat) (s : Sl) (wr : World) : Prop := WX (fun b => b = q) w0 t s wr ∧ w0.heap.size ≤ q ∧ s.most = M ∧ wr.ownsRow 0 3 1 (.slice (some ⟨q, 0, none⟩) M M) M (KI.row (whS s)) ∧ ∀ j, (s.atN j).is = true → 0 ≤ (s.atN j).x
theorem Book.keep {w0 wr w1 : World} {t q M : Nat} {s : Sl} (h : Book w0 t q M s wr) (hb : Below wr.heap.size wr w1) : Book w0 t q M s w1 := by
  obtain ⟨h1, h2, h3, h4, h5⟩ := h
  exact ⟨h1.keep hb, h2, h3, own_block h4 (fun b _ hl => hb.block b hl), h5⟩
theorem Book.cell {w0 wr : World} {t q M : Nat} {s : Sl} (h : Book w0 t q M s wr) (j : Nat) (hj : j < M) : wr.cell? ⟨q, j, none⟩ = some (.int .i64 (if (s.atN j).is = true then (s.atN j).x else -1)) ∧ wr.frozen? ⟨q, j, none⟩ = false := by
  obtain ⟨h1, h2, h3, h4, h5⟩ := h
  have hl : (whS s).length = M := by rw [whS_len, h3]
  have := KI_cell h4 hl.symm j (by omega)
  rw [whS_at] at this
  exact this
theorem Book.write {w0 wr w1 : World} {t q M : Nat} {s s' : Sl} (h : Book w0 t q M s wr) (g1 : WX (fun b => b = q) w0 t s' w1) (g2 : w1.heap[q]? = wr.heap[q]?) (hm : s'.most = s.most) (i : Nat) (hi : i < M) (p : Plc) (hp : p.is = true → 0 ≤ p.x) (hat : ∀ j, s'.atN j = if j = i then p else s.atN j) :
    Book w0 t q M s' (w1.setCell ⟨q, i, none⟩ (.int .i64 (if p.is = true then p.x else -1))) := by
  obtain ⟨h1, h2, h3, h4, h5⟩ := h
  have hl : (whS s).length = M := by rw [whS_len, h3]
  refine ⟨g1.setCell rfl h2 _ _, h2, hm.trans h3, ?_, fun j hj => ?_⟩
  · rw [whS_set hm i p hat]
    exact KI_set (own_block h4 (fun b hb _ => by simp only [Value.ownBlock, Option.some.injEq] at hb; subst hb; exact g2)) i (by omega) _
  · rw [hat] at hj ⊢
    split
    · rename_i e; rw [if_pos e] at hj; exact hp hj
    · rename_i e; rw [if_neg e] at hj; exact h5 j hj

set_option maxHeartbeats 4000000 in
theorem apart_law (most : Int) (A : Option Addr) (cap : Nat) (ls : List Ac9) (w : World) (hr : KA9.Rd w A ls) : Calls Try.prog 5 #[.int .i64 most, .slice A ls.length cap] w fun e w' => e = .returned (.bool true) ∧ Below w.heap.size w w' := by
  have HR := Lib.hid hr
  clear hr
  by_cases hlen : 100 < ls.length
  · have t0 : decide ((100 : Int) < (ls.length : Int)) = true := by simp; omega
    go_enter Try.func5, Try.ntmps5
    go_wp2_with fail
    refine (awake9_any _).mono ?_
    rintro e w1 ⟨rfl, hw1⟩
    go_wp2
    go_ret
    exact ⟨rfl, hw1⟩
  · have t0 : decide ((100 : Int) < (ls.length : Int)) = false := by simp; omega
    obtain ⟨M, hM, hM6⟩ : ∃ M : Nat, bits .and .i64 most 31 = (M : Int) ∧ M ≤ 31 := ⟨(most % 32).toNat, by rw [i64_and5]; omega, by omega⟩
    obtain ⟨i0, hi0, hz0, hz1, hz2⟩ := info_parts info_int
    go_enter Try.func5, Try.ntmps5
    go_wp2_with fail
    refine (awake9_any w).mono ?_
    rintro e w1 ⟨rfl, b1⟩
    have z1 := b1.size
    go_wp2_with fail
    refine (w9_new _ _).mono ?_
    rintro e w2 ⟨t, rfl, h2⟩
    have hm2 : (Sl.new (M : Int)).most = M := by simp only [Sl.new]; omega
    have hw2 : whS (Sl.new (M : Int)) = List.replicate M (-1) := by
      unfold whS
      rw [hm2]
      apply List.ext_getElem
      · simp
      · intro j h1 h2
        simp [Sl.new, Sl.atN, plz]
    have H2 := Lib.hid h2
    have HM2 := Lib.hid hm2
    have HW2 := Lib.hid hw2
    clear h2 hm2 hw2
    go_wp2_with (
      at_make
      refine wpList_make_full _ rfl _ _ _ rfl 0 3 i0 _ 1 Try.underlying26 hi0 hz0 hz1 .i64 .i64 _ _ M (by rfl) (by rfl) (by rfl) (by rfl) (by rw [hz2]; omega) (by simp only [maxLen]; omega) (Nat.zero_le _) ?_
      intro w3 hown1 hg1
      have HO := Lib.hid hown1
      have HG := Lib.hid hg1
      clear hown1 hg1
      )
    have hb3 : Below w2.heap.size w2 w3 := (Below.refl _ _).grown HG.out (Nat.le_refl _) (by simp)
    have hq3 : w2.heap.size < w3.heap.size := (HO.out.lt _ rfl).2
    have e3 : (madeCells (Value.int .i64 0).cells (M * 1)).toList = KI.row (List.replicate M 0) := by
      rw [Nat.mul_one]
      show (madeCells #[.int .i64 0] M).toList = _
      rw [toList_madeCells_one]
      unfold Kd.row
      rw [List.flatMap_replicate]
      simp [KI, intE]
    have ho3 := HO.out
    rw [e3] at ho3
    have HX3 := Lib.hid (H2.out.wx (X' := fun b => b = w2.heap.size) hb3 (fun b e => by subst e; exact Nat.le_refl _) (fun b e => by subst e; exact hq3))
    have HO3 := Lib.hid ho3
    have zq := H2.out.below.size
    generalize hQ : w2.heap.size = q at HX3 HO3
    have zq' : w1.heap.size ≤ q := by omega
    clear HO HG hb3 hq3 e3 ho3 hQ zq
    go_loopw [9] (fun n wr => ∃ (j : Nat) (wh : List Int), j ≤ M ∧ n = .int .i64 j ∧ wh.length = M ∧ (∀ i, i < j → wh[i]? = some (-1)) ∧ WX (fun b => b = q) w1 t (Sl.new (M : Int)) wr ∧ wr.ownsRow 0 3 1 (.slice (some ⟨q, 0, none⟩) M M) M (KI.row wh)) (fun n _ => M - (intOf n).toNat)
    case atStart => exact ⟨0, _, by omega, rfl, by simp, fun i hi => by omega, HX3.out, HO3.out⟩
    case round =>
      obtain ⟨j, wh, hj, rfl, hwl, hwi, hX, hO⟩ := hrel
      have HX := Lib.hid hX
      have HO := Lib.hid hO
      have HWI := Lib.hid hwi
      have HWL := Lib.hid hwl
      clear hwi hX hO hwl HX3 HO3
      by_cases hlt : j < M
      · have t1 : decide ((j : Int) < (M : Int)) = true := by simp; omega
        obtain ⟨c1, f1⟩ := KI_cell HO.out HWL.out.symm j (by rw [HWL.out]; exact hlt)
        go_wp2
        go_roundw
        case rel =>
          refine ⟨j + 1, wh.set j (-1), by omega, by go_num, by simp [HWL.out], fun i hi => ?_, HX.out.setCell rfl zq' _ _, KI_set HO.out j (by rw [HWL.out]; exact hlt) _⟩
          by_cases e : i = j
          · subst e
            rw [List.getElem?_set_self (by rw [HWL.out]; exact hlt)]
          · rw [List.getElem?_set_ne (fun h => e h.symm)]
            exact HWI.out i (by omega)
        case measure => simp [intOf]; omega
      · have hjM : j = M := by omega
        subst hjM
        have t1 : decide ((j : Int) < (j : Int)) = false := by simp
        have hwh : wh = whS (Sl.new (j : Int)) := by
          rw [HW2.out]
          apply List.ext_getElem
          · simp [HWL.out]
          · intro i h1 h2
            have := HWI.out i (by rw [HWL.out] at h1; exact h1)
            rw [List.getElem?_eq_getElem h1] at this
            simpa using this
        have hbk : Book w1 t q j (Sl.new (j : Int)) wr := ⟨HX.out, zq', HM2.out, by rw [← hwh]; exact HO.out, fun i hi => by simp [Sl.new, Sl.atN, plz] at hi⟩
        have HB := Lib.hid hbk
        clear hwh hbk HO HWI HWL HX HW2 HM2 H2
        generalize hS0 : Sl.new (j : Int) = s0 at HB
        clear hS0
        go_wp2_with fail
        go_loopw [10] (fun n wr => ∃ (k : Nat) (s : Sl), k ≤ ls.length ∧ n = .int .i64 k ∧ Book w1 t q j s wr) (fun n _ => ls.length - (intOf n).toNat)
        case atStart => exact ⟨0, s0, by omega, rfl, HB.out⟩
        case round =>
          obtain ⟨k, s, hk, rfl, hb⟩ := hrel
          have HK := Lib.hid hb
          clear hb HB
          by_cases hkl : k < ls.length
          · have t2 : decide ((k : Int) < (ls.length : Int)) = true := by simp; omega
            obtain ⟨g, off, rfl, hg, hc⟩ := HR.out (by intro e; rw [e] at hkl; cases hkl)
            have hB1 := b1.trans (HK.out.1.below.mono z1)
            have d0 : wr.cell? ⟨g, off + k * 3, none⟩ = some (.int .i64 ls[k].what) := (hB1.cell (p := ⟨g, off + k * 3, none⟩) hg).trans (hc k hkl 0 (by decide))
            have d1 : wr.cell? ⟨g, off + k * 3 + 1, none⟩ = some (.int .i64 ls[k].i) := (hB1.cell (p := ⟨g, off + k * 3 + 1, none⟩) hg).trans (hc k hkl 1 (by decide))
            generalize ls[k] = a at d0 d1
            obtain ⟨I, hI, hI6⟩ : ∃ I : Nat, bits .and .i64 a.i 31 = (I : Int) ∧ I ≤ 31 := ⟨(a.i % 32).toNat, by rw [i64_and5]; omega, by omega⟩
            clear hc
            go_upto_if 54 with fail
            go_cut [12, 13] (fun _ _ wx => ∃ s', Book w1 t q j s' wx)
            case first =>
              have hmost := HK.out.2.2.1
              have hbook := HK.out.2.2.2.2
              by_cases hw0 : a.what = 0
              · have t3 : (a.what == 0) = true := by simp [hw0]
                clear hw0
                cases htk : s.took
                · have c1 := wx_take HK.out.1 k
                  have hn : s.nxt = none := by unfold Sl.took at htk; simpa using htk
                  rw [htk, take_none hn] at c1
                  have C1 := Lib.hid c1
                  clear c1 htk hn hbook hmost
                  go_wp2_with fail
                  refine C1.out.mono ?_
                  rintro e w4 ⟨rfl, g1, g2⟩
                  have HN : Hid (Book w1 t q j s w4) := Lib.hid ⟨g1, HK.out.2.1, HK.out.2.2.1, own_block HK.out.2.2.2.1 (fun b hb _ => by simp only [Value.ownBlock, Option.some.injEq] at hb; subst hb; exact g2 _ rfl), HK.out.2.2.2.2⟩
                  clear g1 g2
                  go_wp2_with fail
                  go_meet
                  case rel => exact ⟨_, HN.out⟩
                · obtain ⟨i, hi⟩ : ∃ i, s.nxt = some i := Option.isSome_iff_exists.1 htk
                  have hI9 : s.tookI = (i : Int) := by unfold Sl.tookI; rw [hi]; rfl
                  have hfree := nxt_free HK.out.1.w9.1 hi
                  have hat := take_atN HK.out.1.w9.1 hi k
                  have c1 := wx_take HK.out.1 k
                  rw [htk, hI9] at c1
                  have C1 := Lib.hid c1
                  have HAT := Lib.hid hat
                  have hij : i < j := by omega
                  have hcl := (HK.out.cell i hij).1
                  rw [hfree.1] at hcl
                  have hcl2 : wr.cell? ⟨q, i, none⟩ = some (.int .i64 (-1)) := hcl
                  have hfz := (HK.out.cell i hij).2
                  have HCL := Lib.hid (And.intro hcl2 hfz)
                  clear c1 htk hi hI9 hfree hat hcl hcl2 hfz hbook hmost
                  go_wp2_with fail
                  refine C1.out.mono ?_
                  rintro e w4 ⟨rfl, g1, g2⟩
                  have hcl4 : w4.cell? ⟨q, i, none⟩ = some (.int .i64 (-1)) := (World.cell?_of_block (g2 _ rfl)).trans HCL.out.1
                  have hfz4 : w4.frozen? ⟨q, i, none⟩ = false := (World.frozen?_of_block (g2 _ rfl)).trans HCL.out.2
                  have HN := Lib.hid (HK.out.write g1 (g2 _ rfl) (take_most s k) i hij ⟨(k : Int), true⟩ (fun _ => by simp only; omega) HAT.out)
                  have t5 : decide ((i : Int) < 0) = false := by simp
                  have t6 : decide ((j : Int) ≤ (i : Int)) = false := by simp; omega
                  clear g1 g2
                  go_wp2_with fail
                  go_meet
                  case rel => exact ⟨_, HN.out⟩
              · have t3 : (a.what == 0) = false := by simp [hw0]
                clear hw0
                cases htk : s.has I
                · have c1 := wx_give HK.out.1 I
                  rw [htk, give_no htk] at c1
                  have C1 := Lib.hid c1
                  clear c1 htk hbook hmost
                  go_wp2_with fail
                  refine C1.out.mono ?_
                  rintro e w4 ⟨rfl, g1, g2⟩
                  have HN : Hid (Book w1 t q j s w4) := Lib.hid ⟨g1, HK.out.2.1, HK.out.2.2.1, own_block HK.out.2.2.2.1 (fun b hb _ => by simp only [Value.ownBlock, Option.some.injEq] at hb; subst hb; exact g2 _ rfl), HK.out.2.2.2.2⟩
                  clear g1 g2
                  go_wp2_with fail
                  go_meet
                  case rel => exact ⟨_, HN.out⟩
                · have hbd := has_bd htk
                  rw [Int.toNat_natCast] at hbd
                  have hpl := HK.out.1.w9.1.pl
                  have hij : I < j := by omega
                  have hat := give_atN htk
                  rw [Int.toNat_natCast] at hat
                  have c1 := wx_give HK.out.1 I
                  rw [htk] at c1
                  have C1 := Lib.hid c1
                  have HAT := Lib.hid hat
                  have hcl := (HK.out.cell I hij).1
                  rw [if_pos hbd.2.2] at hcl
                  have hfz := (HK.out.cell I hij).2
                  have hpos := hbook I hbd.2.2
                  generalize (s.atN I).x = y at hcl hpos
                  have HCL := Lib.hid (And.intro hcl hfz)
                  have t5 : decide (y < 0) = false := by simp; omega
                  have t6 : decide ((j : Int) ≤ (I : Int)) = false := by simp; omega
                  clear c1 htk hbd hpl hat hcl hfz hbook hmost hpos
                  go_wp2_with fail
                  refine C1.out.mono ?_
                  rintro e w4 ⟨rfl, g1, g2⟩
                  have hcl4 : w4.cell? ⟨q, I, none⟩ = some (.int .i64 y) := (World.cell?_of_block (g2 _ rfl)).trans HCL.out.1
                  have hfz4 : w4.frozen? ⟨q, I, none⟩ = false := (World.frozen?_of_block (g2 _ rfl)).trans HCL.out.2
                  have HN := Lib.hid (HK.out.write g1 (g2 _ rfl) (give_most s I) I hij plz (fun h => by simp [plz] at h) HAT.out)
                  clear g1 g2
                  go_wp2_with fail
                  go_meet
                  case rel => exact ⟨_, HN.out⟩
            case rest =>
              obtain ⟨s', hb'⟩ := hcut
              have HB' := Lib.hid hb'
              clear hb' HK d0 d1 hI hB1
              go_wp2_with fail
              go_loopw [14, 15] (fun c n wx => ∃ i : Nat, i ≤ j ∧ n = .int .i64 i ∧ c = .int .i64 ((s'.usedK i).length : Int) ∧ wx = wc) (fun _ n _ => j - (intOf n).toNat)
              case atStart => exact ⟨0, by omega, rfl, rfl, rfl⟩
              case round =>
                obtain ⟨i, hi, rfl, rfl, hww⟩ := hrel
                have hw9 := hww.symm
                subst hw9
                have hu := usedK_le s' i
                have hus := usedK_succ s' i
                have HU := Lib.hid hus
                clear hus
                by_cases hil : i < j
                · have t4 : decide ((i : Int) < (j : Int)) = true := by simp; omega
                  obtain ⟨cc, cf⟩ := HB'.out.cell i hil
                  have c1 := w9_at HB'.out.1.w9 i
                  rw [has_nat, at_nat] at c1
                  have hpos := HB'.out.2.2.2.2 i
                  cases hy : (s'.atN i).is
                  · rw [hy] at c1 cc HU
                    have c1' := Lib.hid c1
                    have cc' : wc.cell? ⟨q, i, none⟩ = some (.int .i64 (-1)) := cc
                    clear c1 cc hpos
                    go_wp2_with fail
                    refine c1'.out.mono ?_
                    rintro e w5 ⟨rfl, rfl⟩
                    go_wp2
                    go_roundw
                    case rel => exact ⟨i + 1, by omega, by go_num, by rw [HU.out]; rfl, trivial⟩
                    case measure => simp [intOf]; omega
                  · rw [hy] at c1 cc HU
                    have hp := hpos hy
                    generalize (s'.atN i).x = y at c1 cc hp
                    have c1' := Lib.hid c1
                    have cc' : wc.cell? ⟨q, i, none⟩ = some (.int .i64 y) := cc
                    have t5 : decide (0 ≤ y) = true := by simp; omega
                    clear c1 cc hpos hp
                    go_wp2_with fail
                    refine c1'.out.mono ?_
                    rintro e w5 ⟨rfl, rfl⟩
                    go_wp2
                    go_roundw
                    case rel => exact ⟨i + 1, by omega, by go_num, by rw [HU.out]; simp, trivial⟩
                    case measure => simp [intOf]; omega
                · have hij : i = j := by omega
                  subst hij
                  have t4 : decide ((i : Int) < (i : Int)) = false := by simp
                  have hlen : s'.len = ((s'.usedK i).length : Int) := by
                    have h1 := HB'.out.1.w9.1
                    rw [usedK_ext s' i (by rw [← HB'.out.2.2.1]; exact h1.pl)]
                    exact h1.lenIs
                  have c1 := w9_len HB'.out.1.w9
                  rw [hlen] at c1
                  have C1 := Lib.hid c1
                  clear c1 hlen
                  go_wp2_with fail
                  refine C1.out.mono ?_
                  rintro e w5 ⟨rfl, b5⟩
                  have HB5 := Lib.hid (HB'.out.keep b5)
                  clear b5
                  go_wp2
                  go_roundw
                  case rel => exact ⟨k + 1, s', by omega, by go_num, HB5.out⟩
                  case measure => simp [intOf]; omega
          · have t2 : decide ((k : Int) < (ls.length : Int)) = false := by simp; omega
            have hB1 := b1.trans (HK.out.1.below.mono z1)
            go_wp2
            go_ret
            exact ⟨rfl, hB1⟩

end Go.Proofs.Ytebgkoimphjagaa
