/-
  RecencyTouched returns true, and leaves all old memory as it was. No condition.
-/
import Derived.Test.YtkkjdpmkiedbiaaLjO
namespace Go.Proofs.Ytkkjdpmkiedbiaa
open Go.RowKit
set_option maxRecDepth 100000

/-- All are touched, one behind the other. -/
def tch (M : Int) (l : List Int) : Rc := l.foldl Rc.touch (Rc.new M)
theorem touch_n (s : Rc) (i : Int) : (s.touch i).n = s.n := by
  unfold Rc.touch
  split <;> rfl
theorem tch_succ (M : Int) (l : List Int) (k : Nat) (h : k < l.length) : tch M (l.take (k + 1)) = (tch M (l.take k)).touch l[k] := by
  unfold tch
  rw [← List.take_append_getElem h, List.foldl_append]
  rfl
theorem tch_n (M : Int) (l : List Int) : (tch M l).n = (Rc.new M).n := by
  unfold tch
  generalize Rc.new M = s
  induction l generalizing s with
  | nil => rfl
  | cons x l ih => rw [List.foldl_cons, ih, touch_n]
/-- Those that are not among others. -/
def rest (W L : List Nat) : List Nat := L.filter fun i => !decide (i ∈ W)
theorem rest_in {W L : List Nat} {y : Nat} (h : y ∈ W) : rest W (y :: wout L y) = rest W L := by
  unfold rest wout
  rw [List.filter_cons, List.filter_filter]
  simp only [h, decide_true, Bool.not_true, Bool.false_eq_true, if_false]
  congr 1
  funext i
  by_cases e : i = y
  · subst e; simp [h]
  · simp; intro _; omega
theorem rest_out {W L : List Nat} {y : Nat} (h : y ∉ W) : rest W (y :: wout L y) = y :: rest (W ++ [y]) L := by
  unfold rest wout
  rw [List.filter_cons, List.filter_filter]
  simp only [h, decide_false, Bool.not_false, if_true]
  congr 2
  funext i
  by_cases e : i = y
  · subst e; simp
  · have : ¬ (i : Int) = (y : Int) := by omega
    simp [e, this]
/-- A book of what was met. -/
structure Met (M : Nat) (ls : List Int) (j : Nat) (B : List Bool) (W : List Nat) : Prop where
  len : B.length = M
  has : ∀ i, (h : i < B.length) → B[i] = decide (i ∈ W)
  lt : ∀ i, i ∈ W → i < M
  all : (tch M ls).L = W ++ rest W (tch M (ls.take j)).L
theorem met_start (M : Nat) (ls : List Int) : Met M ls ls.length (List.replicate M false) [] where
  len := by simp
  has := by simp
  lt := by simp
  all := by rw [List.take_of_length_le (Nat.le_refl _)]; exact (List.filter_eq_self.2 (fun i _ => by simp)).symm
theorem met_skip {M : Nat} {ls : List Int} {j : Nat} {B : List Bool} {W : List Nat} (h : Met M ls (j + 1) B W) (hj : j < ls.length) (hm : (tch M (ls.take j)).may ls[j] = false) : Met M ls j B W where
  len := h.len
  has := h.has
  lt := h.lt
  all := by rw [h.all, tch_succ _ _ _ hj, touch_no hm]
theorem met_in {M : Nat} {ls : List Int} {j : Nat} {B : List Bool} {W : List Nat} {y : Nat} (h : Met M ls (j + 1) B W) (hj : j < ls.length) (hy : ls[j] = (y : Int)) (hm : (tch M (ls.take j)).may (y : Int) = true) (hW : y ∈ W) : Met M ls j B W where
  len := h.len
  has := h.has
  lt := h.lt
  all := by rw [h.all, tch_succ _ _ _ hj, hy, touch_yes hm]; show W ++ rest W (y :: wout _ _) = _; rw [rest_in hW]
theorem met_out {M : Nat} {ls : List Int} {j : Nat} {B : List Bool} {W : List Nat} {y : Nat} (h : Met M ls (j + 1) B W) (hj : j < ls.length) (hy : ls[j] = (y : Int)) (hm : (tch M (ls.take j)).may (y : Int) = true) (hM : y < M) (hW : y ∉ W) : Met M ls j (B.set y true) (W ++ [y]) where
  len := by simp [h.len]
  has := fun i hi => by
    rw [List.getElem_set]
    by_cases e : y = i
    · subst e; simp
    · rw [if_neg e, h.has i (by simpa using hi)]
      have : ¬ i = y := fun h => e h.symm
      simp [this]
  lt := fun i hi => by
    rcases List.mem_append.1 hi with h' | h'
    · exact h.lt i h'
    · simp at h'; omega
  all := by rw [h.all, tch_succ _ _ _ hj, hy, touch_yes hm]; show W ++ rest W (y :: wout _ _) = _; rw [rest_out hW]; simp
theorem met_end {M : Nat} {ls : List Int} {B : List Bool} {W : List Nat} (h : Met M ls 0 B W) : (tch M ls).L = W := by
  have := h.all
  rw [this]
  simp [tch, Rc.new, rest]
theorem WY.frm {w0 wr w1 : World} {t q : Nat} {s : Rc} (h : WY (fun b => b = q) w0 t s wr) (hf : Frm (fun b => b = q) wr w1) (hq : w0.heap.size ≤ q) : WY (fun b => b = q) w0 t s w1 := by
  obtain ⟨S, g1, g2, g3, g4⟩ := h
  exact ⟨S, g1.frm hf (fun b hS e => (g2 b hS).2 e), g2, fun b hb => Nat.lt_of_lt_of_le (g3 b hb) hf.size, g4.trans (hf.below (fun b e => by subst e; exact hq) g4.size)⟩
theorem Frm.low {S : Nat → Prop} {w w1 w2 : World} (h : Frm S w w1) (hb : Below w.heap.size w1 w2) : Frm S w w2 := ⟨hb.os.trans h.os, hb.tape.trans h.tape, hb.output.trans h.output, Nat.le_trans h.size hb.size, fun k hk hn => (hb.block k hk).trans (h.block k hk hn)⟩
theorem KB_cell {w : World} {base q n cap : Nat} {l : List Bool} (h : w.ownsRow base 4 1 (.slice (some ⟨q, 0, none⟩) n cap) n (KB.row l)) (hn : n = l.length) (j : Nat) (hj : j < l.length) : w.cell? ⟨q, j, none⟩ = some (.bool l[j]) ∧ w.frozen? ⟨q, j, none⟩ = false := by
  subst hn
  refine ⟨?_, h.frozenAt j⟩
  rw [h.cellAt j (by omega)]
  have := KB.row_at l j hj 0 (by decide)
  rw [show j * KB.k + 0 = j from by simp [KB]] at this
  exact this
/-- At the head of a round that goes back over the numbers. -/
def TchRel (w3 : World) (M q : Nat) (ls : List Int) (v : Value) (j : Nat) (wr : World) : Prop := ∃ (B : List Bool) (W : List Nat) (A : Option Addr) (c m : Nat), j ≤ ls.length ∧ m = W.length ∧ v = .slice A m c ∧ Met M ls j B W ∧ wr.ownsRow 0 4 1 (.slice (some ⟨q, 0, none⟩) M M) M (KB.row B) ∧ wr.ownsRow w3.heap.size 3 1 v m (KN.row W) ∧ Frm (fun b => b = q) w3 wr
theorem may_is {s : Rc} {M : Nat} (h : s.n = M + 1) (i : Int) : s.may i = (decide (0 ≤ i) && decide (i < (M : Int))) := by
  unfold Rc.may
  rw [h]
  congr 2
  simp

set_option maxHeartbeats 8000000 in
theorem touched_law (most : Int) (A : Option Addr) (cap : Nat) (ls : List Int) (w : World) (hr : KI.Rd w A ls) :
    Calls Try.prog 7 #[.int .i64 most, .slice A ls.length cap] w fun e w' => e = .returned (.bool true) ∧ Below w.heap.size w w' := by
  have HR := Lib.hid hr
  clear hr
  obtain ⟨M, hM, hM32⟩ : ∃ M : Nat, bits .and .i64 most 31 = (M : Int) ∧ M ≤ 31 := ⟨(most % 32).toNat, by rw [i64_and5]; omega, by omega⟩
  obtain ⟨i9, j1, j2, j3, j4⟩ : ∃ i, Try.prog.info? 4 = some i ∧ i.zero = some (.bool false) ∧ i.size = 1 ∧ i.bytes = 1 := by
    have h := info_bool
    cases hi : Try.prog.info? 4 with
    | none => rw [hi] at h; simp at h
    | some i =>
      rw [hi] at h
      simp at h
      exact ⟨i, rfl, h.1, h.2.1, h.2.2⟩
  have J2 := Lib.hid j2
  have J3 := Lib.hid j3
  have hb9 : i9.bytes * M ≤ 281474976710656 := by rw [j4]; omega
  clear j2 j3 j4
  go_enter Try.func7, Try.ntmps7
  go_wp2_with fail
  refine (awake10_any w).mono ?_
  rintro e w1 ⟨rfl, b1⟩
  have z1 := b1.size
  by_cases hlen : 100 < ls.length
  · have t0 : decide (100 < (ls.length : Int)) = true := by simp; omega
    go_wp2
    go_ret
    exact ⟨rfl, b1⟩
  · have t0 : decide (100 < (ls.length : Int)) = false := by simp; omega
    go_wp2_with fail
    refine (wy_new (M : Int) w1).mono ?_
    rintro e w2 ⟨t, rfl, h2⟩
    have H2 := Lib.hid h2
    have hn0 : ∀ l, (tch (M : Int) l).n = M + 1 := fun l => by rw [tch_n]; simp only [Rc.new]; omega
    have HN0 := Lib.hid hn0
    clear h2 hn0
    go_wp2_with fail
    go_loopw [8] (fun n wr => ∃ k : Nat, k ≤ ls.length ∧ n = .int .i64 k ∧ WY noX w1 t (tch (M : Int) (ls.take k)) wr) (fun n _ => ls.length - (intOf n).toNat)
    case atStart => exact ⟨0, by omega, rfl, H2.out⟩
    case round =>
      obtain ⟨k, hk, rfl, hb⟩ := hrel
      have HK := Lib.hid hb
      clear hb H2
      by_cases hkl : k < ls.length
      · have t2 : decide ((k : Int) < (ls.length : Int)) = true := by simp; omega
        obtain ⟨g, off, rfl, hg, hc⟩ := HR.out (by intro e; rw [e] at hkl; cases hkl)
        have hck : w.cell? ⟨g, off + k, none⟩ = some (.int .i64 ls[k]) := by
          have := hc k hkl 0 (by decide)
          rw [show off + k * KI.k + 0 = off + k from by simp [KI]] at this
          exact this
        have D := Lib.hid (fun W (hB : Below w.heap.size w W) => (hB.cell (p := ⟨g, off + k, none⟩) hg).trans hck)
        have HS := Lib.hid (tch_succ (M : Int) ls k hkl)
        generalize ls[k] = y at D HS
        have D : Hid (∀ W, Below w.heap.size w W → W.cell? ⟨g, off + k, none⟩ = some (.int .i64 y)) := D
        have d0 := D.out wr (b1.trans (HK.out.below.mono z1))
        have hm := may_is (HN0.out (ls.take k)) y
        clear hc hck
        generalize tch (M : Int) (ls.take k) = s at HK HS hm
        have hct := wy_touch HK.out y
        rw [hm] at hct
        have HC := Lib.hid hct
        have k3 : (k : Int) < (ls.length : Int) := by omega
        clear hct hm
        go_wp2_with fail
        refine HC.out.mono ?_
        rintro e w4 ⟨rfl, h4, -⟩
        have H4 := Lib.hid h4
        clear h4 d0
        have d0 := D.out w4 (b1.trans (H4.out.below.mono z1))
        cases h0 : decide (0 ≤ y)
        · rw [Bool.false_and]
          go_wp2
          go_roundw
          case rel => exact ⟨k + 1, by omega, by go_num, by rw [HS.out]; exact H4.out⟩
          case measure => simp [intOf]; omega
        · rw [Bool.true_and]
          cases h1 : decide (y < (M : Int))
          all_goals
            go_wp2
            go_roundw
            case rel => exact ⟨k + 1, by omega, by go_num, by rw [HS.out]; exact H4.out⟩
            case measure => simp [intOf]; omega
      · have hkl' : k = ls.length := by omega
        subst hkl'
        have t2 : decide ((ls.length : Int) < (ls.length : Int)) = false := by simp
        rw [List.take_of_length_le (Nat.le_refl _)] at HK
        go_wp2_with (
          refine wpList_make_full wr rfl (.tmp 50) (.tmp 50) 49 rfl 0 4 i9 _ 1 Try.underlying49 j1 J2.out J3.out .i64 .i64 _ _ M (by rfl) (by rfl) rfl rfl hb9 (by simp only [maxLen]; omega) (Nat.zero_le _) ?_
          intro w3 ho hg
          have HO := Lib.hid ho
          have HG := Lib.hid hg
          clear ho hg
          )
        have z2 := HK.out.below.size
        have hb3 : Below wr.heap.size wr w3 := (Below.refl _ _).grown HG.out (Nat.le_refl _) (by simp)
        have hq3 : wr.heap.size < w3.heap.size := (HO.out.lt _ rfl).2
        have e3 : (madeCells (Value.bool false).cells (M * 1)).toList = KB.row (List.replicate M false) := by
          rw [Nat.mul_one]
          show (madeCells #[.bool false] M).toList = _
          rw [toList_madeCells_one]
          unfold Kd.row
          rw [List.flatMap_replicate]
          simp [KB, boolE]
        have ho3 := HO.out
        rw [e3] at ho3
        have HX3 := Lib.hid (HK.out.turn (X' := fun b => b = wr.heap.size) hb3 (fun b e => by subst e; exact .inr (Nat.le_refl _)) (fun b e => by subst e; exact hq3))
        have HO3 := Lib.hid ho3
        generalize hQ : wr.heap.size = q at HX3 HO3
        have zq : w1.heap.size ≤ q := by omega
        have HT := Lib.hid (met_start M ls)
        rw [hQ] at hq3
        clear HO HG hb3 e3 ho3 HK hQ z2
        go_loopw [11, 12] (fun v n wr => ∃ j : Nat, n = .int .i64 ((j : Int) - 1) ∧ TchRel w3 M q ls v j wr) (fun _ n _ => (intOf n + 1).toNat)
        case atStart => exact ⟨ls.length, rfl, _, [], none, 0, 0, Nat.le_refl _, rfl, rfl, HT.out, HO3.out, World.ownsRow_nil _ _ _ _, Frm.refl _ _⟩
        case round =>
          obtain ⟨j, rfl, B, W, Aw, c, m, hj, hm, rfl, hmet, hob, how, hf⟩ := hrel
          have HM := Lib.hid hmet
          have HOB := Lib.hid hob
          have HOW := Lib.hid how
          have HF := Lib.hid hf
          have HMW := Lib.hid hm
          have hWn : W.length ≤ 1024 := by
            have h1 := hmet.all
            obtain ⟨R, h2⟩ := HX3.out.ok
            have := h2.len.1
            rw [h1, List.length_append] at this
            omega
          have zf := hf.size
          have zb := HX3.out.below.size
          have hBw : Below w.heap.size w wr := (b1.trans (HX3.out.below.mono z1)).trans (hf.below (fun b e => by subst e; omega) (by omega))
          have HBw := Lib.hid hBw
          clear hmet hob how hf hm HT HO3
          cases j with
          | succ j =>
            have e1 : (((j + 1 : Nat) : Int) - 1) = (j : Int) := by omega
            rw [e1]
            have t3 : decide (0 ≤ (j : Int)) = true := by simp
            have hlt : j < ls.length := by omega
            obtain ⟨g, off, rfl, hg, hc⟩ := HR.out (by intro e; rw [e] at hlt; cases hlt)
            have hck : w.cell? ⟨g, off + j, none⟩ = some (.int .i64 ls[j]) := by
              have := hc j hlt 0 (by decide)
              rw [show off + j * KI.k + 0 = off + j from by simp [KI]] at this
              exact this
            have hgq : g ≠ q := by omega
            have d0 := (hBw.cell (p := ⟨g, off + j, none⟩) hg).trans hck
            have D := Lib.hid (fun W (hB : Below w.heap.size w W) => (hB.cell (p := ⟨g, off + j, none⟩) hg).trans hck)
            obtain ⟨y, hy⟩ : ∃ y, ls[j] = y := ⟨_, rfl⟩
            rw [hy] at d0 D
            have D : Hid (∀ W, Below w.heap.size w W → W.cell? ⟨g, off + j, none⟩ = some (.int .i64 y)) := D
            have hmay := may_is (HN0.out (ls.take j)) y
            have k3 : (j : Int) < (ls.length : Int) := by omega
            have HMAY := Lib.hid hmay
            have HY := Lib.hid hy
            clear hc hck hBw hmay hy
            cases h0 : decide (0 ≤ y)
            · have HN : Hid (TchRel w3 M q ls (.slice Aw m c) j wr) := Lib.hid ⟨B, W, Aw, c, m, by omega, HMW.out, rfl, met_skip HM.out hlt (by rw [HY.out, HMAY.out, h0]; rfl), HOB.out, HOW.out, HF.out⟩
              go_wp2
              go_roundw
              case rel => exact ⟨j, by go_num, HN.out⟩
              case measure => simp [intOf]
            · cases h1 : decide (y < (M : Int))
              · have HN : Hid (TchRel w3 M q ls (.slice Aw m c) j wr) := Lib.hid ⟨B, W, Aw, c, m, by omega, HMW.out, rfl, met_skip HM.out hlt (by rw [HY.out, HMAY.out, h0, h1]; rfl), HOB.out, HOW.out, HF.out⟩
                go_wp2
                go_roundw
                case rel => exact ⟨j, by go_num, HN.out⟩
                case measure => simp [intOf]
              · obtain ⟨Y, rfl⟩ := Int.eq_ofNat_of_zero_le (of_decide_eq_true h0)
                have hYM : Y < M := by have := of_decide_eq_true h1; omega
                have hmy : (tch (M : Int) (ls.take j)).may (Y : Int) = true := by rw [HMAY.out, h0, h1]; rfl
                have hYB : Y < B.length := by rw [HM.out.len]; exact hYM
                obtain ⟨q0, q1⟩ := KB_cell HOB.out HM.out.len.symm Y hYB
                rw [HM.out.has Y hYB] at q0
                have k4 : (Y : Int) < (M : Int) := by omega
                by_cases hW : Y ∈ W
                · have HN : Hid (TchRel w3 M q ls (.slice Aw m c) j wr) := Lib.hid ⟨B, W, Aw, c, m, by omega, HMW.out, rfl, met_in HM.out hlt HY.out hmy hW, HOB.out, HOW.out, HF.out⟩
                  simp only [hW, decide_true] at q0
                  clear hmy hYB hW
                  go_wp2
                  go_roundw
                  case rel => exact ⟨j, by go_num, HN.out⟩
                  case measure => simp [intOf]
                · have HN := Lib.hid (met_out HM.out hlt HY.out hmy hYM hW)
                  simp only [hW, decide_false] at q0
                  have hob2 := Kd.own_set1 (K := KB) rfl HOB.out Y hYB true (.bool true) rfl
                  have how2 := own_far HOW.out (p := ⟨q, Y, none⟩) hq3 (.bool true)
                  have hf2 : Frm (fun b => b = q) w3 (wr.setCell ⟨q, Y, none⟩ (.bool true)) := HF.out.setCell (p := ⟨q, Y, none⟩) (.inl rfl) _
                  have hb2 : Below w.heap.size w (wr.setCell ⟨q, Y, none⟩ (.bool true)) := HBw.out.setCell (p := ⟨q, Y, none⟩) (by simp only; omega) _
                  clear hmy hYB hW
                  go_upto_region 19 with fail
                  generalize World.setCell _ _ _ = W6 at hob2 how2 hf2 hb2 ⊢
                  have d6 := D.out W6 hb2
                  have HOB2 := Lib.hid hob2
                  have HOW2 := Lib.hid how2
                  have HF2 := Lib.hid hf2
                  have z6 := hf2.size
                  clear hob2 how2 hf2 hb2 d0 q0 q1 HOB HOW HF zf
                  go_wp2_with (
                    at_builtin
                    refine Kd.wpList_one KN_ty rfl (.tmp 88) (.tmp 93) rfl w3.heap.size _ m _ HMW.out (by rfl) (HOW2.out.alloc _) W6.heap.size Y (by rfl) (hp_new rfl) (by have := HMW.out; omega) (by simp; omega) ?_
                    intro A' c' w7 hG
                    have HG := Lib.hid hG
                    clear hG
                    )
                  go_roundw
                  case rel =>
                    have hb7 : Below w3.heap.size W6 w7 := ((Below.refl _ _).alloc z6 _).trans HG.out.2.2.2
                    exact ⟨j, by go_num, _, _, A', c', m + 1, by omega, by simp [HMW.out], rfl, HN.out, own_block HOB2.out (fun b hb _ => by simp only [Value.ownBlock, Option.some.injEq] at hb; subst hb; exact hb7.block _ hq3), HG.out.1, HF2.out.low hb7⟩
                  case measure => simp [intOf]
          | zero =>
            have e1 : (((0 : Nat) : Int) - 1) = -1 := by omega
            rw [e1]
            have HL := Lib.hid (met_end HM.out)
            have HX := Lib.hid (HX3.out.frm HF.out zq)
            have hmn := HX.out.ok
            obtain ⟨Ay, cy, ey, -, ry, ly⟩ := KN.rd_own HOW.out HMW.out
            simp only [Value.slice.injEq, true_and] at ey
            obtain ⟨rfl, rfl⟩ := ey
            have RW := Lib.hid ry
            have hqr : q < wr.heap.size := by omega
            have HQ := Lib.hid (fun i (h : i < M) => (by
              obtain ⟨q0, q1⟩ := KB_cell HOB.out HM.out.len.symm i (by rw [HM.out.len]; exact h)
              rw [HM.out.has i (by rw [HM.out.len]; exact h)] at q0
              exact q0 : wr.cell? ⟨q, i, none⟩ = some (.bool (decide (i ∈ W)))))
            clear ry ly HOB HOW HF HX3 e1 hmn hBw
            go_wp2_with fail
            generalize wr = w8 at *
            go_loopw [13] (fun n wr => ∃ i : Nat, i ≤ M ∧ n = .int .i64 i ∧ Below w8.heap.size w8 wr) (fun n _ => M - (intOf n).toNat)
            case atStart => exact ⟨0, by omega, rfl, Below.refl _ _⟩
            case round =>
              obtain ⟨i, hi, rfl, hb⟩ := hrel
              have HB := Lib.hid hb
              have HX9 := Lib.hid (HX.out.keep hb)
              by_cases hil : i < M
              · have t4 : decide ((i : Int) < (M : Int)) = true := by simp; omega
                have k5 : (i : Int) < (M : Int) := by omega
                have E0 := fun x : Later wr.heap.size wr => ((hb.trans (x.below.mono hb.size)).cell (p := ⟨q, i, none⟩) hqr).trans (HQ.out i hil)
                have C1 : Hid (∀ x : Later wr.heap.size wr, Calls Try.prog 19 #[.pointer (some ⟨t, 0, none⟩), .int .i64 (i : Int)] x.at fun e w' => e = .returned (.bool (decide (i ∈ W))) ∧ x.at = w') := Lib.hid (fun x => by
                  have := wy_has (HX9.out.keep x.below) (i : Int)
                  rw [has_nat10, HL.out] at this
                  exact this)
                generalize decide (i ∈ W) = o at E0 C1
                clear hb
                go_wp2_with fail
                refine region_later wr.heap.size (by kernel_rfl) (by kernel_rfl) ?_
                repeat (go_big_quiet_step ((go_at_call 19; exact later_same (C1.out _))))
                refine wpQuiet_nil ?_
                intro x
                have hx := x.below
                clear E0
                generalize x.at = w9 at *
                clear x
                go_wp2
                go_roundw
                case rel => exact ⟨i + 1, by omega, by go_num, HB.out.trans (hx.mono HB.out.size)⟩
                case measure => simp [intOf]; omega
              · have hiM : i = M := by omega
                subst hiM
                have t4 : decide ((i : Int) < (i : Int)) = false := by simp
                have HC := Lib.hid (wy_order HX9.out)
                rw [HL.out] at HC
                have RW9 := Lib.hid (RW.out.kept hb)
                have HBw9 := Lib.hid (HBw.out.trans (hb.mono HBw.out.size))
                have zw9 := HBw9.out.size
                clear hb
                have hmm := HMW.out
                subst hmm
                go_wp2_with fail
                refine HC.out.mono ?_
                rintro e w9 ⟨A9, c9, rfl, ho9, b9⟩
                have R9 := Lib.hid (NatsPost.rd ho9).1
                have RWb := Lib.hid (RW9.out.kept b9)
                have HB9 := Lib.hid (HBw9.out.trans (b9.mono zw9))
                clear ho9 b9
                go_wp2_with fail
                refine (ints9_any W A9 Aw c9 c _ R9.out RWb.out (by omega)).mono ?_
                rintro e w10 ⟨rfl, b10⟩
                have HB10 := Lib.hid (HB9.out.trans (b10.mono HB9.out.size))
                clear b10
                go_wp2
                go_ret
                exact ⟨rfl, HB10.out⟩

end Go.Proofs.Ytkkjdpmkiedbiaa
