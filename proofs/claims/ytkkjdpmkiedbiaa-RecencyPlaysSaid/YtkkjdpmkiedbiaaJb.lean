/-
  A ring of links in memory; what New, end, may, Has, Len, Last of package recency do. Condition: the ring lies at the pointer's block.
-/
import Derived.Test.YtkkjdpmkiedbiaaJa
import Derived.Deep.RegionHeld3
import Derived.ChangeKeysEq
namespace Go.Proofs.Ytkkjdpmkiedbiaa
open Go.RowKit
set_option maxRecDepth 100000

theorem info_ln : (Try.prog.info? 52).map (fun i => (i.zero, i.size, i.bytes)) = some (some (.agg #[.int .i64 0, .int .i64 0]), 2, 16) := by kernel_rfl
theorem KLn_ty : KLn.Ty 52 44 := Kd.ty_of info_ln (by omega) rfl Try.underlying44
@[simp] theorem eq_ln (h l h' l' : Int) (w : World) :
    (Op.equalIn 10000 52 (.agg #[.int .i64 h, .int .i64 l]) (.agg #[.int .i64 h', .int .i64 l'])).run Try.prog w = .ok (h == h' && l == l') w := by
  have hs : (Try.prog.info? 3).isSome = true := by kernel_rfl
  obtain ⟨i, hi⟩ := Option.isSome_iff_exists.1 hs
  rw [show (10000 : Nat) = 9999 + 1 from rfl, run_equalIn_array w 9999 _ _ Try.underlying52 hi]
  simp [Op.eqItems, List.range_succ, show Try.prog.cellsOf 3 = 1 from by kernel_rfl, go_sem]
  by_cases h1 : h = h' <;> by_cases h2 : l = l' <;> simp [h1, h2]
def fot (t : Nat) (v : Value) (b : Nat) : Prop := b = t ∨ v.ownBlock = some b
/-- The list lies at block t. -/
def RcA (w : World) (t : Nat) (v : Value) (n : Nat) (R : Nat → Lnk) (c : Int) : Prop :=
  w.heap[t]? = some (.cells #[v, .int .i64 c] 46 (0, 0)) ∧ w.ownsRow 0 52 2 v n (KLn.row (rowR n R))
def RcS (w : World) (t : Nat) (S : Nat → Prop) (s : Rc) : Prop := ∃ v R, S = fot t v ∧ s.Ok R ∧ RcA w t v s.n R s.L.length
theorem RcA.frm {w w' : World} {t n : Nat} {v : Value} {R : Nat → Lnk} {c : Int} {S : Nat → Prop} (h : RcA w t v n R c) (hf : Frm S w w') (hn : ∀ b, fot t v b → ¬ S b) : RcA w' t v n R c :=
  ⟨(hf.block t (lt_of_block h.1) (hn t (.inl rfl))).trans h.1, own_block h.2 fun b hb hl => hf.block b hl (hn b (.inr hb))⟩
theorem RcA.keep {w w' : World} {t n : Nat} {v : Value} {R : Nat → Lnk} {c : Int} (h : RcA w t v n R c) (hb : Below w.heap.size w w') : RcA w' t v n R c := h.frm (S := fun _ => False) (frm_of_below hb) (fun _ _ h => h)
theorem RcS.keep {w w' : World} {t : Nat} {S : Nat → Prop} {s : Rc} (h : RcS w t S s) (hb : Below w.heap.size w w') : RcS w' t S s := by
  obtain ⟨v, R, rfl, hk, h⟩ := h
  exact ⟨v, R, rfl, hk, h.keep hb⟩
theorem RcA.lt {w : World} {t n : Nat} {v : Value} {R : Nat → Lnk} {c : Int} (h : RcA w t v n R c) : ∀ b, fot t v b → b < w.heap.size := by
  rintro b (rfl | hb)
  · exact lt_of_block h.1
  · exact (h.2.lt b hb).2
theorem RcS.lt {w : World} {t : Nat} {S : Nat → Prop} {s : Rc} (h : RcS w t S s) : ∀ b, S b → b < w.heap.size := by
  obtain ⟨v, R, rfl, hk, h⟩ := h
  exact h.lt
theorem RcS.frm {w w' : World} {t : Nat} {S S' : Nat → Prop} {s : Rc} (h : RcS w t S s) (hf : Frm S' w w') (hn : ∀ b, S b → ¬ S' b) : RcS w' t S s := by
  obtain ⟨v, R, rfl, hk, h⟩ := h
  exact ⟨v, R, rfl, hk, h.frm hf hn⟩
theorem row2 {w : World} {b : Nat} {x y u : Value} {e : TypeId} (h : w.heap[b]? = some (.cells #[x, y] e (0, 0))) :
    (w.setCell ⟨b, 0, none⟩ u).heap[b]? = some (.cells #[u, y] e (0, 0)) ∧ (w.setCell ⟨b, 1, none⟩ u).heap[b]? = some (.cells #[x, u] e (0, 0)) :=
  ⟨heap_setCell_same w b 0 _ e u h, heap_setCell_same w b 1 _ e u h⟩
theorem RcA.head {w : World} {t n : Nat} {v : Value} {R : Nat → Lnk} {c : Int} (h : RcA w t v n R c) :
    w.cell? ⟨t, 0, none⟩ = some v ∧ w.cell? ⟨t, 1, none⟩ = some (.int .i64 c) ∧ w.frozen? ⟨t, 0, none⟩ = false ∧ w.frozen? ⟨t, 1, none⟩ = false ∧ t < w.heap.size :=
  ⟨by rw [cell_row h.1]; rfl, by rw [cell_row h.1]; rfl, frozen_of_row _ _ _ _ _ h.1, frozen_of_row _ _ _ _ _ h.1, lt_of_block h.1⟩
/-- The ring, where it has a place. -/
theorem RcA.ring {w : World} {t n : Nat} {v : Value} {R : Nat → Lnk} {c : Int} (h : RcA w t v n R c) (hn : 0 < n) :
    ∃ g d, v = .slice (some ⟨g, 0, none⟩) n d ∧ n ≤ d ∧ g < w.heap.size ∧ g ≠ t := by
  rcases h.2.2 with ⟨_, e⟩ | ⟨g, cap, cur, rfl, _, hg, hnc, hm, hs, ht⟩
  · omega
  · refine ⟨g, cap, rfl, hnc, lt_of_block hg, ?_⟩
    rintro rfl
    have := h.1
    rw [hg] at this
    simp at this
theorem RcA.at {w : World} {t g n d : Nat} {R : Nat → Lnk} {c : Int} (h : RcA w t (.slice (some ⟨g, 0, none⟩) n d) n R c) (i : Nat) (hi : i < n) :
    w.cell? ⟨g, i * 2, none⟩ = some (.int .i64 ((R i).a : Int)) ∧ w.cell? ⟨g, i * 2 + 1, none⟩ = some (.int .i64 ((R i).b : Int)) ∧ w.frozen? ⟨g, i * 2, none⟩ = false ∧ w.frozen? ⟨g, i * 2 + 1, none⟩ = false := by
  have hc : ∀ j, j < 2 → w.cell? ⟨g, i * 2 + j, none⟩ = (lnE (R i))[j]? := fun j hj => by
    rw [h.2.cellAt (i * 2 + j) (by omega)]
    have := KLn.row_at (rowR n R) i (by rw [rowR_len]; exact hi) j hj
    rw [rowR_at] at this
    exact this
  exact ⟨hc 0 (by omega), hc 1 (by omega), h.2.frozenAt _, h.2.frozenAt _⟩
/-- A link is stored. -/
theorem RcA.stored {w : World} {t g n d : Nat} {R : Nat → Lnk} {c : Int} (h : RcA w t (.slice (some ⟨g, 0, none⟩) n d) n R c) (i j : Nat) (hi : i < n) (hj : j < 2) (x : Lnk) (u : Value) (hx : (lnE (R i)).set j u = lnE x) :
    RcA (w.setCell ⟨g, i * 2 + j, none⟩ u) t (.slice (some ⟨g, 0, none⟩) n d) n (up R i x) c := by
  have ha : g ≠ t := by
    obtain ⟨g', d', e, -, -, e2⟩ := h.ring (by omega)
    simp only [Value.slice.injEq, Option.some.injEq, Addr.mk.injEq] at e
    rw [e.1.1]
    exact e2
  refine ⟨(Below.heap_setCell _ _ _ _ (fun e => ha e.symm)).trans h.1, ?_⟩
  have := (h.2.stored (i * 2 + j) u).1
  have e := KLn.row_set (rowR n R) i (by rw [rowR_len]; exact hi) x j u (by rw [rowR_at]; exact hx) hj
  rw [show i * KLn.k + j = i * 2 + j from rfl] at e
  rw [e, rowR_set] at this
  exact this
theorem RcA.setA {w : World} {t g n d : Nat} {R : Nat → Lnk} {c : Int} (h : RcA w t (.slice (some ⟨g, 0, none⟩) n d) n R c) (i x : Nat) (hi : i < n) :
    RcA (w.setCell ⟨g, i * 2, none⟩ (.int .i64 (x : Int))) t (.slice (some ⟨g, 0, none⟩) n d) n (upA R i x) c := h.stored i 0 hi (by omega) _ _ (by simp [lnE])
theorem RcA.setB {w : World} {t g n d : Nat} {R : Nat → Lnk} {c : Int} (h : RcA w t (.slice (some ⟨g, 0, none⟩) n d) n R c) (i x : Nat) (hi : i < n) :
    RcA (w.setCell ⟨g, i * 2 + 1, none⟩ (.int .i64 (x : Int))) t (.slice (some ⟨g, 0, none⟩) n d) n (upB R i x) c := h.stored i 1 hi (by omega) _ _ (by simp [lnE])
theorem up_up (R : Nat → Lnk) (i : Nat) (x y : Lnk) : up (up R i x) i y = up R i y := by
  funext j
  unfold up
  split <;> rfl
theorem RcA.put {w : World} {t g n d : Nat} {R : Nat → Lnk} {c : Int} (h : RcA w t (.slice (some ⟨g, 0, none⟩) n d) n R c) (i : Nat) (x : Lnk) (hi : i < n) :
    RcA ((w.setCell ⟨g, i * 2, none⟩ (.int .i64 (x.a : Int))).setCell ⟨g, i * 2 + 1, none⟩ (.int .i64 (x.b : Int))) t (.slice (some ⟨g, 0, none⟩) n d) n (up R i x) c := by
  have h1 := h.stored i 0 hi (by omega) ⟨x.a, (R i).b⟩ (.int .i64 (x.a : Int)) (by simp [lnE])
  have h2 := h1.stored i 1 hi (by omega) x (.int .i64 (x.b : Int)) (by rw [up_same]; simp [lnE])
  rw [up_up] at h2
  exact h2
/-- How many there are is stored. -/
theorem RcA.setC {w : World} {t n : Nat} {v : Value} {R : Nat → Lnk} {c : Int} (h : RcA w t v n R c) (x : Int) : RcA (w.setCell ⟨t, 1, none⟩ (.int .i64 x)) t v n R x := by
  refine ⟨(row2 h.1).2, ownsRow_setCell_other h.2 (fun e => ?_) _⟩
  obtain ⟨cur, hc⟩ := own_heap h.2 e
  rw [h.1] at hc
  simp at hc

def RcNew (m : Int) (w : World) (e : Ending) (w' : World) : Prop := ∃ t S, e = .returned (.pointer (some ⟨t, 0, none⟩)) ∧ RcS w' t S (Rc.new m) ∧ Below w.heap.size w w' ∧ ∀ b, S b → w.heap.size ≤ b

set_option maxHeartbeats 400000 in
theorem rcend_any (w : World) (t : Nat) (S : Nat → Prop) (s : Rc) (h : RcS w t S s) : Calls Try.prog 24 #[.pointer (some ⟨t, 0, none⟩)] w fun e w' => e = .returned (.int .i64 ((s.n : Int) - 1)) ∧ w = w' := by
  obtain ⟨v, R, rfl, hk, h⟩ := h
  obtain ⟨c0, c1, f0, f1, hz⟩ := h.head
  obtain ⟨A, d, rfl, hd⟩ := own_val h.2
  have hn := hk.n
  clear h hk
  go_enter Try.func24, Try.ntmps24
  go_wp2
  go_ret
  exact ⟨rfl, rfl⟩
set_option maxHeartbeats 400000 in
theorem rcmay_any (w : World) (t : Nat) (S : Nat → Prop) (s : Rc) (h : RcS w t S s) (i : Int) : Calls Try.prog 25 #[.pointer (some ⟨t, 0, none⟩), .int .i64 i] w fun e w' => e = .returned (.bool (s.may i)) ∧ w = w' := by
  have HC := Lib.hid (rcend_any w t S s h)
  clear h
  cases h0 : decide (0 ≤ i)
  · have HE : Hid (s.may i = false) := Lib.hid (by unfold Rc.may; rw [h0]; rfl)
    go_enter Try.func25, Try.ntmps25
    go_wp2
    go_ret
    rw [HE.out]
    exact ⟨rfl, rfl⟩
  · have HE : Hid (s.may i = decide (i < (s.n : Int) - 1)) := Lib.hid (by unfold Rc.may; rw [h0, Bool.true_and])
    go_enter Try.func25, Try.ntmps25
    go_wp2_with fail
    refine HC.out.mono ?_
    rintro e w1 ⟨rfl, rfl⟩
    go_wp2
    go_ret
    rw [HE.out]
    exact ⟨rfl, rfl⟩
set_option maxHeartbeats 400000 in
theorem rclen_any (w : World) (t : Nat) (S : Nat → Prop) (s : Rc) (h : RcS w t S s) : Calls Try.prog 18 #[.pointer (some ⟨t, 0, none⟩)] w fun e w' => e = .returned (.int .i64 (s.L.length : Int)) ∧ w = w' := by
  obtain ⟨v, R, rfl, hk, h⟩ := h
  obtain ⟨c0, c1, f0, f1, hz⟩ := h.head
  clear h hk
  go_enter Try.func18, Try.ntmps18
  go_wp2
  go_ret
  exact ⟨rfl, rfl⟩
set_option maxHeartbeats 400000 in
theorem rchas_any (w : World) (t : Nat) (S : Nat → Prop) (s : Rc) (h : RcS w t S s) (i : Int) : Calls Try.prog 19 #[.pointer (some ⟨t, 0, none⟩), .int .i64 i] w fun e w' => e = .returned (.bool (s.has i)) ∧ w = w' := by
  have hc := rcmay_any w t S s h i
  obtain ⟨v, R, rfl, hk, h⟩ := h
  cases hm : s.may i
  · rw [hm] at hc
    have HE : Hid (s.has i = false) := Lib.hid (by
      cases hh : s.has i
      · rfl
      · rw [hk.has_may hh] at hm; cases hm)
    have HC := Lib.hid hc
    clear h hc hk hm
    go_enter Try.func19, Try.ntmps19
    go_wp2_with fail
    refine HC.out.mono ?_
    rintro e w1 ⟨rfl, rfl⟩
    go_wp2
    go_ret
    rw [HE.out]
    exact ⟨rfl, rfl⟩
  · rw [hm] at hc
    obtain ⟨i0, i1⟩ := may_bd hm
    obtain ⟨k, rfl⟩ := Int.eq_ofNat_of_zero_le i0
    obtain ⟨c0, c1, f0, f1, hz⟩ := h.head
    obtain ⟨g, d, rfl, hd, gz, gt⟩ := h.ring (by omega)
    obtain ⟨r0, r1, -, -⟩ := h.at k (by omega)
    have HE : Hid ((!(((R k).a : Int) == (k : Int)) || !(((R k).b : Int) == (k : Int))) = s.has k) := Lib.hid (by
      rw [← hk.self (i := k) (by omega), Bool.not_and]
      congr 2
      all_goals rw [Bool.eq_iff_iff]; simp; omega)
    have HC := Lib.hid hc
    have k1 : (k : Int) < (s.n : Int) := by omega
    generalize (R k).a = x at r0 HE
    generalize (R k).b = y at r1 HE
    clear h hc hk hm
    go_enter Try.func19, Try.ntmps19
    go_wp2_with fail
    refine HC.out.mono ?_
    rintro e w1 ⟨rfl, rfl⟩
    go_wp2
    go_ret
    rw [← HE.out]
    exact ⟨rfl, rfl⟩
/-- The last one, and whether there is one. -/
def LastPost (s : Rc) (w : World) (e : Ending) (w' : World) : Prop := e = .returned (.tuple #[.int .i64 s.last, .bool s.is]) ∧ Below w.heap.size w w'
set_option maxHeartbeats 400000 in
theorem rclast_any (w : World) (t : Nat) (S : Nat → Prop) (s : Rc) (h : RcS w t S s) : Calls Try.prog 14 #[.pointer (some ⟨t, 0, none⟩)] w (LastPost s w) := by
  have hl := rclen_any w t S s h
  have he := fun x : Later w.heap.size w => rcend_any x.at t S s (h.keep x.below)
  obtain ⟨v, R, rfl, hk, h⟩ := h
  by_cases hL : s.L = []
  · have HE : Hid (s.last = 0 ∧ s.is = false) := Lib.hid (by unfold Rc.last Rc.is; rw [hL]; exact ⟨rfl, rfl⟩)
    have e1 : s.L.length = 0 := by rw [hL]; rfl
    rw [e1] at hl
    have HC := Lib.hid hl
    clear h hl he hk e1 hL
    go_enter Try.func14, Try.ntmps14
    go_wp2_with fail
    refine HC.out.mono ?_
    rintro e w1 ⟨rfl, rfl⟩
    go_wp2
    go_ret2
    unfold LastPost
    rw [HE.out.1, HE.out.2]
    exact ⟨rfl, Below.refl _ _⟩
  · have hpos : 0 < s.L.length := List.length_pos_iff.2 hL
    have hll := hk.len
    have h0 : 0 < s.n := by omega
    obtain ⟨c0, c1, f0, f1, hz⟩ := h.head
    obtain ⟨g, d, rfl, hd, gz, gt⟩ := h.ring h0
    obtain ⟨r0, r1, -, -⟩ := h.at (s.n - 1) (by omega)
    rw [hk.lastIs h0 hL] at r0
    have HE : Hid (s.last = (s.L.getLastD 0 : Nat) ∧ s.is = true) := Lib.hid (by unfold Rc.last Rc.is; refine ⟨rfl, ?_⟩; cases h9 : s.L with | nil => exact absurd h9 hL | cons => rfl)
    obtain ⟨m, hm⟩ : ∃ m, s.n = m + 1 := ⟨s.n - 1, by omega⟩
    rw [hm] at he c0 r0 hd
    have e2 : ((m + 1 : Nat) : Int) - 1 = (m : Int) := by omega
    rw [e2] at he
    simp only [Nat.add_sub_cancel] at r0
    have t1 : ((s.L.length : Int) == 0) = false := by simp; exact hL
    have HC := Lib.hid hl
    have HD := Lib.hid he
    have k1 : (m : Int) < ((m + 1 : Nat) : Int) := by omega
    generalize s.L.getLastD 0 = y at r0 HE
    have C0 := fun x : Later w.heap.size w => (x.cell (p := ⟨t, 0, none⟩) hz).trans c0
    have R0 := fun x : Later w.heap.size w => (x.cell (p := ⟨g, m * 2, none⟩) gz).trans r0
    clear h hl he hk hll r1 e2 hpos hL h0 hm c0 r0
    go_enter Try.func14, Try.ntmps14
    go_wp2_with fail
    refine HC.out.mono ?_
    rintro e w1 ⟨rfl, rfl⟩
    go_wp2_with fail
    refine region_later w.heap.size (by kernel_rfl) (by kernel_rfl) ?_
    repeat (go_big_quiet_step ((go_at_call 24; exact later_same (HD.out _))))
    refine wpQuiet_nil ?_
    intro x
    have hx := x.below
    clear C0 R0
    generalize x.at = w2 at *
    clear x
    go_wp2
    go_ret2
    unfold LastPost
    rw [HE.out.1, HE.out.2]
    exact ⟨rfl, hx⟩

end Go.Proofs.Ytkkjdpmkiedbiaa
