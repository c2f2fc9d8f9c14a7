/-
  What Sane, Contains and Of of the document's answer for layer 2 return. No condition.
-/
import Derived.Test.YthdnpilkkegniaaPg
import Derived.Test.YthdnpilkkegniaaRefC
import Derived.Laws.OwnMore
import Derived.Test.YthdnpilkkegniaaLawN
import Derived.Test.YthdnpilkkegniaaMathP
import Derived.Test.YthdnpilkkegniaaPbx
namespace Go.Proofs.Ythdnpilkkegniaa
open Go.RowKit

set_option maxHeartbeats 400000 in
theorem cmpI_any (x y : Int) (w : World) :
    Calls Try.prog 82 #[.int .i64 x, .int .i64 y] w fun e w' => e = .returned (.int .i64 (cmpI x y)) ∧ w = w' := by
  by_cases h1 : x < y
  · have hr := Lib.hid (show cmpI x y = -1 from if_pos h1)
    go_enter Try.func82, Try.ntmps82
    go_wp2
    go_ret
    exact ⟨ret_int hr.out.symm, rfl⟩
  · by_cases h2 : y < x
    · have hr := Lib.hid (show cmpI x y = 1 from (if_neg h1).trans (if_pos h2))
      go_enter Try.func82, Try.ntmps82
      go_wp2
      go_ret
      exact ⟨ret_int hr.out.symm, rfl⟩
    · have hr := Lib.hid (show cmpI x y = 0 from (if_neg h1).trans (if_neg h2))
      go_enter Try.func82, Try.ntmps82
      go_wp2
      go_ret
      exact ⟨ret_int hr.out.symm, rfl⟩

def orI (x y : Int) : Int := if x = 0 then y else x
set_option maxHeartbeats 400000 in
theorem or2_any (g c : Nat) (x y : Int) (w : World) (h0 : w.cell? ⟨g, 0, none⟩ = some (.int .i64 x)) (h1 : w.cell? ⟨g, 1, none⟩ = some (.int .i64 y)) :
    Calls Try.prog 80 #[.slice (some ⟨g, 0, none⟩) 2 c] w fun e w' => e = .returned (.int .i64 (orI x y)) ∧ w = w' := by
  by_cases hx : x = 0
  · rw [show orI x y = y from if_pos hx]
    subst hx
    by_cases hy : y = 0
    · subst hy
      go_enter Try.func80, Try.ntmps80
      go_wp2_with fail
      refine wp_loop_rounds 3 ?_
      rw [rounds_succ]
      go_wp2_with fail
      rw [rounds_succ]
      go_wp2_with fail
      rw [rounds_succ]
      go_wp2
      go_ret
      exact ⟨rfl, rfl⟩
    · have hy' : (y == 0) = false := by simp [hy]
      go_enter Try.func80, Try.ntmps80
      go_wp2_with fail
      refine wp_loop_rounds 3 ?_
      rw [rounds_succ]
      go_wp2_with fail
      rw [rounds_succ]
      go_wp2
      go_ret
      exact ⟨rfl, rfl⟩
  · rw [show orI x y = x from if_neg hx]
    have hx' : (x == 0) = false := by simp [hx]
    go_enter Try.func80, Try.ntmps80
    go_wp2_with fail
    refine wp_loop_rounds 3 ?_
    rw [rounds_succ]
    go_wp2
    go_ret
    exact ⟨rfl, rfl⟩

set_option maxHeartbeats 1000000 in
theorem pcmp_any (p q : Pf) (w : World) :
    Calls Try.prog 26 #[.agg #[.int .u64 (u p.a.hi), .int .u64 (u p.a.lo), .bool p.a.v6, .int .i64 p.n], .agg #[.int .u64 (u q.a.hi), .int .u64 (u q.a.lo), .bool q.a.v6, .int .i64 q.n]] w fun e w' => e = .returned (.int .i64 (pcmp p q)) ∧ Below w.heap.size w w' := by
  go_enter Try.func26, Try.ntmps26
  go_wp2_with fail
  generalize hW : World.alloc _ _ = W
  have hz : w.heap.size ≤ W.heap.size := by subst hW; go_size
  have hB : Below w.heap.size w W := by subst hW; go_grown
  obtain ⟨pa, pb, pc, pg, pd, pe, pf, ph, pz⟩ := cells4 (W := W) (b := w.heap.size) (Below.refl _ W) (by subst hW; go_size) (by subst hW; go_simp <;> rfl) (by subst hW; go_simp <;> rfl) (by subst hW; go_simp <;> rfl) (by subst hW; go_simp <;> rfl) (by subst hW; go_simp <;> rfl) (by subst hW; go_simp <;> rfl) (by subst hW; go_simp <;> rfl) (by subst hW; go_simp <;> rfl)
  obtain ⟨qa, qb, qc, qg, qd, qe, qf, qh, qz⟩ := cells4 (W := W) (b := w.heap.size + 1) (Below.refl _ W) (by subst hW; go_size) (by subst hW; go_simp <;> rfl) (by subst hW; go_simp <;> rfl) (by subst hW; go_simp <;> rfl) (by subst hW; go_simp <;> rfl) (by subst hW; go_simp <;> rfl) (by subst hW; go_simp <;> rfl) (by subst hW; go_simp <;> rfl) (by subst hW; go_simp <;> rfl)
  clear hW
  have Lpa := fun x : Later W.heap.size W => (x.cell pz).trans pa
  have Lpb := fun x : Later W.heap.size W => (x.cell pz).trans pb
  have Lpc := fun x : Later W.heap.size W => (x.cell pz).trans pc
  have Lpg := fun x : Later W.heap.size W => (x.cell pz).trans pg
  have Lqa := fun x : Later W.heap.size W => (x.cell qz).trans qa
  have Lqb := fun x : Later W.heap.size W => (x.cell qz).trans qb
  have Lqc := fun x : Later W.heap.size W => (x.cell qz).trans qc
  have Lqg := fun x : Later W.heap.size W => (x.cell qz).trans qg
  refine region_tail 10 W.heap.size (by kernel_rfl) (by kernel_rfl) ?_
  simp only [List.take_succ_cons, List.take_zero, List.drop_succ_cons, List.drop_zero]
  repeat (go_big_quiet_step (first | (go_at_call 81; exact later_of (Nat.le_refl _) (cmp_any p.a q.a _)) | (go_at_call 82; exact later_same (cmpI_any _ _ _))))
  refine wpQuiet_nil ?_
  intro x
  have hx : Below w.heap.size w x.at := hB.trans (x.below.mono hz)
  clear Lpa Lpb Lpc Lpg Lqa Lqb Lqc Lqg pa pb pc pd pe pf pg ph pz qa qb qc qd qe qf qg qh qz
  generalize x.at = w2 at *
  clear x hB hz W
  go_wp2_with fail
  refine (or2_any w2.heap.size 2 (cmpv p.a q.a) (cmpI p.n q.n) _ (by rw [cell_new rfl]; rfl) (by rw [cell_new rfl]; rfl)).mono ?_
  rintro e w3 ⟨rfl, rfl⟩
  go_wp2
  go_ret
  have hz2 := hx.size
  exact ⟨rfl, by go_grown⟩

set_option maxHeartbeats 1000000 in
theorem pends_any (p : Pf) (w : World) :
    Calls Try.prog 43 #[.agg #[.int .u64 (u p.a.hi), .int .u64 (u p.a.lo), .bool p.a.v6, .int .i64 p.n]] w fun e w' => e = .returned (.tuple #[.agg #[.int .u64 (u (maskv p.a p.n).hi), .int .u64 (u (maskv p.a p.n).lo), .bool (maskv p.a p.n).v6], .agg #[.int .u64 (u (fillv p.a p.n).hi), .int .u64 (u (fillv p.a p.n).lo), .bool (fillv p.a p.n).v6]]) ∧ Below w.heap.size w w' := by
  go_enter Try.func43, Try.ntmps43
  go_wp2_with fail
  generalize hW : World.alloc _ _ = W
  have hz : w.heap.size ≤ W.heap.size := by subst hW; go_size
  have hB : Below w.heap.size w W := by subst hW; go_grown
  obtain ⟨pa, pb, pc, pg, pd, pe, pf, ph, pz⟩ := cells4 (W := W) (b := w.heap.size) (Below.refl _ W) (by subst hW; go_size) (by subst hW; go_simp <;> rfl) (by subst hW; go_simp <;> rfl) (by subst hW; go_simp <;> rfl) (by subst hW; go_simp <;> rfl) (by subst hW; go_simp <;> rfl) (by subst hW; go_simp <;> rfl) (by subst hW; go_simp <;> rfl) (by subst hW; go_simp <;> rfl)
  obtain ⟨qa, qb, qc, qd, qe, qf, qz⟩ := cells3 (W := W) (b := w.heap.size + 1) (Below.refl _ W) (by subst hW; go_size) (by subst hW; go_simp <;> rfl) (by subst hW; go_simp <;> rfl) (by subst hW; go_simp <;> rfl) (by subst hW; go_simp <;> rfl) (by subst hW; go_simp <;> rfl) (by subst hW; go_simp <;> rfl)
  obtain ⟨ra, rb, rc, rd, re, rf, rz⟩ := cells3 (W := W) (b := w.heap.size + 1 + 1) (Below.refl _ W) (by subst hW; go_size) (by subst hW; go_simp <;> rfl) (by subst hW; go_simp <;> rfl) (by subst hW; go_simp <;> rfl) (by subst hW; go_simp <;> rfl) (by subst hW; go_simp <;> rfl) (by subst hW; go_simp <;> rfl)
  clear hW
  have Lpa := fun x : Later W.heap.size W => (x.cell pz).trans pa
  have Lpb := fun x : Later W.heap.size W => (x.cell pz).trans pb
  have Lpc := fun x : Later W.heap.size W => (x.cell pz).trans pc
  have Lpg := fun x : Later W.heap.size W => (x.cell pz).trans pg
  refine region_tail 10 W.heap.size (by kernel_rfl) (by kernel_rfl) ?_
  simp only [List.take_succ_cons, List.take_zero, List.drop_succ_cons, List.drop_zero]
  repeat (go_big_quiet_step (first | (go_at_call 98; exact later_of (Nat.le_refl _) (mask_any p.a p.n _)) | (go_at_call 99; exact later_of (Nat.le_refl _) (fill_any p.a p.n _))))
  refine wpQuiet_nil ?_
  intro x
  have hx : Below w.heap.size w x.at := hB.trans (x.below.mono hz)
  clear Lpa Lpb Lpc Lpg
  obtain ⟨q'a, q'b, q'c, q'd, q'e, q'f, q'z⟩ := cells3 x.below qz qa qb qc qd qe qf
  clear qa qb qc qd qe qf qz
  obtain ⟨r'a, r'b, r'c, r'd, r'e, r'f, r'z⟩ := cells3 x.below rz ra rb rc rd re rf
  clear ra rb rc rd re rf rz
  clear pa pb pc pd pe pf pg ph pz
  generalize x.at = w2 at *
  clear x hB hz W
  go_wp2
  refine bodyPost_ret (v := .tuple #[.agg #[.int .u64 (u (maskv p.a p.n).hi), .int .u64 (u (maskv p.a p.n).lo), .bool (maskv p.a p.n).v6], .agg #[.int .u64 (u (fillv p.a p.n).hi), .int .u64 (u (fillv p.a p.n).lo), .bool (fillv p.a p.n).v6]]) (by simp [*, results, Try.results43, go_sem] <;> rfl) rfl ⟨rfl, ?_⟩
  go_grown

end Go.Proofs.Ythdnpilkkegniaa

namespace Go.Proofs.Ythdnpilkkegniaa
open Go.RowKit

/-- A block's first n cells are these numbers, and may be written. -/
def Row (w : World) (g n : Nat) (f : Nat → Int) : Prop :=
  g < w.heap.size ∧ (∀ j, j < n → w.cell? ⟨g, j, none⟩ = some (.int .i64 (f j))) ∧ ∀ j, w.frozen? ⟨g, j, none⟩ = false
theorem Row.below {w w' : World} {B g n : Nat} {f : Nat → Int} (h : Row w g n f) (hb : Below B w w') (hg : g < B) : Row w' g n f :=
  ⟨Nat.lt_of_lt_of_le h.1 hb.size, fun j hj => (hb.cell (p := ⟨g, j, none⟩) hg).trans (h.2.1 j hj), fun j => (hb.frozen (p := ⟨g, j, none⟩) hg).trans (h.2.2 j)⟩

theorem refBit_eq (a : Ad) (i : Int) (h0 : 0 ≤ i) (h1 : i < wid a.v6) : rawv a i = bitv a i := by
  obtain ⟨k, rfl⟩ := Int.eq_ofNat_of_zero_le h0
  rw [wid_wd] at h1
  rw [rawv_D a k (by omega), bitv_D a k (by omega)]
theorem bitv_out (a : Ad) (i : Int) (h : ¬ (0 ≤ i ∧ i < wid a.v6)) : bitv a i = 0 := by
  unfold bitv
  have : inW a.v6 i = false := by
    unfold inW
    rw [← Bool.decide_and, decide_eq_false_iff_not]
    exact h
  rw [this]
  rfl

theorem own_below {w w' : World} {B base : Nat} {e : TypeId} {size n : Nat} {v : Value} {xs : List Value} (h : w.ownsRow base e size v n xs) (hb : Below B w w') (hB : w.heap.size ≤ B) : w'.ownsRow base e size v n xs := by
  refine ⟨h.1, ?_⟩
  rcases h.2 with h' | ⟨g, cap, cur, h1, h2, h3, h4⟩
  · exact .inl h'
  · refine .inr ⟨g, cap, cur, h1, h2, ?_, h4⟩
    rw [hb.block g (Nat.lt_of_lt_of_le (Array.getElem?_eq_some_iff.1 h3).1 hB)]
    exact h3

set_option maxHeartbeats 1000000 in
theorem refBit_any (a : Ad) (i : Int) (w : World) :
    Calls Try.prog 127 #[.agg #[.int .u64 (u a.hi), .int .u64 (u a.lo), .bool a.v6], .int .i64 i] w fun e w' => e = .returned (.int .i64 (bitv a i)) ∧ Below w.heap.size w w' := by
  have hw := wid_bd a.v6
  by_cases hi : i < 0
  · have t1 : decide (i < 0) = true := by simp [hi]
    have hb := Lib.hid (bitv_out a i (by omega))
    go_enter Try.func127, Try.ntmps127
    go_wp2
    go_ret
    exact ⟨ret_int hb.out.symm, by go_grown⟩
  · have t1 : decide (i < 0) = false := by simp [hi]
    by_cases hi2 : wid a.v6 ≤ i
    · have t2 : decide (wid a.v6 ≤ i) = true := by simp [hi2]
      have hb := Lib.hid (bitv_out a i (by omega))
      go_enter Try.func127, Try.ntmps127
      go_wp2_with fail
      refine (refWidth_any a.v6 _).mono ?_
      rintro e w2 ⟨rfl, rfl⟩
      go_wp2
      go_ret
      exact ⟨ret_int hb.out.symm, by go_grown⟩
    · have t2 : decide (wid a.v6 ≤ i) = false := by simp [hi2]
      have hb := Lib.hid (refBit_eq a i (by omega) (by omega))
      go_enter Try.func127, Try.ntmps127
      go_wp2_with fail
      refine (refWidth_any a.v6 _).mono ?_
      rintro e w2 ⟨rfl, rfl⟩
      go_wp2_with fail
      refine (raw_any a i (by omega) (by omega) _).mono ?_
      rintro e w3 ⟨rfl, h3⟩
      have b3 := below_of (w := w) (by go_grown) h3
      clear h3
      go_wp2
      go_ret
      exact ⟨ret_int hb.out, b3⟩

def rdig (a : Ad) (m : Nat) : List Value := (List.range m).map fun j : Nat => .int .i64 (rawv a (j : Int))
theorem rdig_succ (a : Ad) (m : Nat) : rdig a (m + 1) = rdig a m ++ [.int .i64 (rawv a m)] := by
  unfold rdig
  rw [List.range_succ, List.map_append]
  rfl
theorem rdig_at (a : Ad) (m j : Nat) (h : j < m) : (rdig a m)[j]? = some (.int .i64 (rawv a j)) := by
  unfold rdig
  simp [h]
theorem rawv_bd (a : Ad) (k : Nat) (h : k < 128) : 0 ≤ rawv a k ∧ rawv a k ≤ 1 := by
  rw [rawv_P a k h]
  split <;> omega

def DigPost (w : World) (a : Ad) (e : Ending) (w' : World) : Prop := ∃ g c : Nat, e = .returned (.slice (some ⟨g, 0, none⟩) (wd a.v6) c) ∧ w.heap.size ≤ g ∧ Row w' g (wd a.v6) (fun j => rawv a j) ∧ Below w.heap.size w w'
set_option maxHeartbeats 2000000 in
theorem refDigits_any (a : Ad) (w : World) :
    Calls Try.prog 174 #[.agg #[.int .u64 (u a.hi), .int .u64 (u a.lo), .bool a.v6]] w (DigPost w a) := by
  obtain ⟨i0, hi0, hz0, hz1, hz2⟩ := info_parts info_int
  have hw := wd_lb a.v6
  have Hwid := Lib.hid (wid_wd a.v6)
  go_enter Try.func174, Try.ntmps174
  go_wp2_with fail
  generalize hW1 : World.alloc _ _ = W1
  have hz1w : w.heap.size < W1.heap.size := by subst hW1; go_size
  have hB1 : Below w.heap.size w W1 := by subst hW1; go_grown
  obtain ⟨pa, pb, pc, pd, pe, pf, pz⟩ : Box W1 w.heap.size a := by
    subst hW1
    refine ⟨?_, ?_, ?_, ?_, ?_, ?_, ?_⟩ <;> first | (go_simp; done) | (go_simp <;> rfl) | go_size
  clear hW1
  go_loopw [3, 4] (fun l i wr => ∃ k : Nat, k ≤ wd a.v6 ∧ i = .int .i64 k ∧ wr.ownsRow W1.heap.size 3 1 l k (rdig a k) ∧ Below W1.heap.size W1 wr) (fun _ i _ => wd a.v6 - (intOf i).toNat)
  case atStart => exact ⟨0, by omega, rfl, ⟨by simp [rdig], .inl ⟨rfl, rfl⟩⟩, Below.refl _ _⟩
  case round =>
    obtain ⟨k, hk, rfl, hown, hB⟩ := hrel
    obtain ⟨qa, qb, qc, qd, qe, qf, qz⟩ := cells3 hB pz pa pb pc pd pe pf
    have Hown := Lib.hid hown
    have Hge := Lib.hid (own_ge hown)
    clear hown
    have hbase := hB.size
    by_cases hlt : k < wd a.v6
    · have hlt' : decide ((k : Int) < wid a.v6) = true := by rw [Hwid.out]; simp; omega
      go_wp2_with fail
      refine (refWidth_any a.v6 _).mono ?_
      rintro e w2 ⟨rfl, rfl⟩
      go_wp2_with fail
      refine (raw_any a k (by omega) (by omega) _).mono ?_
      rintro e w3 ⟨rfl, h3⟩
      have H3 := Lib.hid (own_below Hown.out h3 (Nat.le_refl _))
      have b3 := hB.trans (h3.mono hbase)
      have hz3 := b3.size
      clear h3 Hown
      go_wp2_with ((at_builtin
                    refine wpList_append_own _ rfl (.tmp 12) (.tmp 16) _ rfl W1.heap.size 3 i0 _ 1 8 Try.underlying57 hi0 hz0 hz1 hz2 rfl (by omega) _ k (rdig a k) rfl (H3.out.alloc _) ⟨w3.heap.size, 0, none⟩ 1 1 [.int .i64 (rawv a k)] rfl rfl (World.news_of_block (cs := #[.int .i64 (rawv a k)]) (t := 3) (fr := (0, 0)) (heap_alloc_new w3 _)) (by simp [Value.oneCell']) (by simp only [maxLen]; omega) (by omega) (by simp; omega) ?_
                    intro v1 w4 hown1 hg1 hat1
                    have H1 := Lib.hid hown1
                    have G1 := Lib.hid hg1
                    clear hown1 hg1 hat1))
      have bX : Below W1.heap.size W1 w4 := (b3.alloc hz3 _).grown G1.out (by simp; omega) Hge.out
      refine ⟨⟨k + 1, by omega, by go_num, ?_, bX⟩, ?_⟩
      · have e := H1.out
        rw [← rdig_succ] at e
        exact e
      · simp [intOf]; omega
    · obtain rfl : k = wd a.v6 := by omega
      have hlt' : decide ((wd a.v6 : Int) < wid a.v6) = false := by rw [Hwid.out]; simp
      obtain ⟨g, cap, hv, hgb, hgl⟩ := Hown.out.form (by omega)
      subst hv
      have hrow : Row wr g (wd a.v6) (fun j => rawv a j) := ⟨hgl, fun j hj => (Hown.out.cellAt j (by omega)).trans (rdig_at a _ j hj), fun j => Hown.out.frozenAt j⟩
      have HR := Lib.hid hrow
      clear hrow Hown Hge
      go_wp2_with fail
      refine (refWidth_any a.v6 _).mono ?_
      rintro e w2 ⟨rfl, rfl⟩
      go_wp2
      refine bodyPost_ret (v := .slice (some ⟨g, 0, none⟩) (wd a.v6) cap) (by simp [*, results, Try.results174, go_sem] <;> rfl) rfl ⟨g, cap, rfl, by omega, HR.out, ?_⟩
      exact hB1.trans (hB.mono (Nat.le_of_lt hz1w))

theorem sane_raw (a : Ad) : saneB a = true ↔ (a.v6 = true ∨ ∀ j : Nat, 32 ≤ j → j < 128 → rawv a j = 0) := by
  rw [sane_iff]
  have hw := wd_lb a.v6
  constructor
  · intro h
    cases hv : a.v6
    · refine .inr fun j h1 h2 => ?_
      rw [rawv_P a j h2, ← h, P_norm, D_low a _ (by rw [hv]; show 127 - j < 96; omega)]
      rfl
    · exact .inl rfl
  · rintro h
    have hP : ∀ j, j < 128 → P (norm a) j = P a j := by
      intro j hj
      rw [P_norm, D_P]
      rcases h with h | h
      · rw [h]; simp [lb]
      · by_cases hl : lb a.v6 ≤ j
        · simp [hl]
        · have := h (127 - j) (by omega) (by omega)
          rw [rawv_P a _ (by omega), show 127 - (127 - j) = j from by omega] at this
          cases hp : P a j
          · simp
          · rw [hp] at this; simp at this
    have e1 : (norm a).hi = a.hi := by
      apply BitVec.eq_of_getLsbD_eq
      intro m hm
      have := hP (m + 64) (by omega)
      unfold P at this
      rw [if_neg (by omega), if_neg (by omega), Nat.add_sub_cancel] at this
      exact this
    have e2 : (norm a).lo = a.lo := by
      apply BitVec.eq_of_getLsbD_eq
      intro m hm
      have := hP m (by omega)
      unfold P at this
      rw [if_pos hm, if_pos hm] at this
      exact this
    show Ad.mk (norm a).hi (norm a).lo a.v6 = _
    rw [e1, e2]

set_option maxHeartbeats 2000000 in
theorem refSane_any (a : Ad) (w : World) :
    Calls Try.prog 125 #[.agg #[.int .u64 (u a.hi), .int .u64 (u a.lo), .bool a.v6]] w fun e w' => e = .returned (.bool (saneB a)) ∧ Below w.heap.size w w' := by
  by_cases hv : a.v6 = false
  · have HS := Lib.hid (sane_raw a)
    have HV := Lib.hid hv
    have tn : (!a.v6) = true := by rw [hv]; rfl
    clear hv
    go_enter Try.func125, Try.ntmps125
    go_wp2_with fail
    go_loopw [3] (fun i wr => ∃ k : Nat, 32 ≤ k ∧ k ≤ 128 ∧ i = .int .i64 k ∧ Hid (∀ j : Nat, 32 ≤ j → j < k → rawv a j = 0) ∧ Box wr w.heap.size a ∧ Below w.heap.size w wr) (fun i _ => 128 - (intOf i).toNat)
    case atStart =>
      refine ⟨32, by omega, by omega, rfl, fun j h1 h2 => absurd h1 (by omega), ?_, ?_⟩
      · refine ⟨?_, ?_, ?_, ?_, ?_, ?_, ?_⟩ <;> first | (go_simp; done) | (go_simp <;> rfl) | go_size
      · go_grown
    case round =>
      obtain ⟨k, hk0, hk, rfl, hall, ⟨pa, pb, pc, pd, pe, pf, pz⟩, hB⟩ := hrel
      by_cases hlt : k < 128
      · have hlt' : decide ((k : Int) < 128) = true := by simp; omega
        have hlt2 : (k : Int) < 128 := by omega
        by_cases h0 : rawv a k = 0
        · have t0 : (rawv a k == 0) = true := by simp [h0]
          have t1 : (rawv a k != 0) = false := by simp [h0]
          have H0 := Lib.hid h0
          clear h0
          go_wp2_with fail
          refine (raw_any a k (by omega) (by omega) _).mono ?_
          rintro e w3 ⟨rfl, h3⟩
          have b3 := hB.trans (h3.mono hB.size)
          obtain ⟨qa, qb, qc, qd, qe, qf, qz⟩ := cells3 h3 pz pa pb pc pd pe pf
          clear h3
          go_wp2_with fail
          refine ⟨⟨k + 1, by omega, by omega, by go_num, ?_, ⟨qa, qb, qc, qd, qe, qf, qz⟩, b3⟩, by simp [intOf]; omega⟩
          intro j h1 h2
          by_cases e : j = k
          · rw [e]; exact H0.out
          · exact hall.out j h1 (by omega)
        · have t0 : (rawv a k == 0) = false := by simp [h0]
          have t1 : (rawv a k != 0) = true := by simp [h0]
          have hs : Hid (saneB a = false) := by
            refine Lib.hid ?_
            rw [← Bool.not_eq_true, HS.out]
            rintro (h | h)
            · rw [HV.out] at h; cases h
            · exact h0 (h k hk0 hlt)
          clear h0
          go_wp2_with fail
          refine (raw_any a k (by omega) (by omega) _).mono ?_
          rintro e w3 ⟨rfl, h3⟩
          have b3 := hB.trans (h3.mono hB.size)
          clear h3
          go_wp2
          go_ret
          exact ⟨ret_bool hs.out.symm, b3⟩
      · obtain rfl : k = 128 := by omega
        have hs : Hid (saneB a = true) := Lib.hid (HS.out.2 (.inr hall.out))
        go_wp2
        go_ret
        exact ⟨ret_bool hs.out.symm, hB⟩
  · have tn : (!a.v6) = false := by simpa using hv
    have hs := Lib.hid ((sane_raw a).2 (.inl (by simpa using hv)))
    clear hv
    go_enter Try.func125, Try.ntmps125
    go_wp2_with fail
    refine wp_loop_rounds 1 ?_
    rw [rounds_succ]
    go_wp2
    go_ret
    exact ⟨ret_bool hs.out.symm, by go_grown⟩

end Go.Proofs.Ythdnpilkkegniaa

namespace Go.Proofs.Ythdnpilkkegniaa
open Go.RowKit

/-- An address out of its own digits. -/
theorem of_eq (x : Ad) (dl : Nat → Int) (hx : norm x = x) (hd : ∀ k, k < wd x.v6 → dl k = if D x (127 - k) then 1 else 0) : ofv dl x.v6 = x := by
  have hw := wd_lb x.v6
  have hb : ∀ j, j < wd x.v6 → 0 ≤ dl j ∧ dl j ≤ 1 := by
    intro j hj
    rw [hd j hj]
    split <;> omega
  rw [← of_norm dl x.v6 hb, ← hx]
  show norm (ofv dl x.v6) = _
  rw [← hx]
  have e : norm (ofv dl x.v6) = norm x := by
    refine norm_ext rfl fun j => ?_
    by_cases hj : j < 128
    · rw [D_P, P_of dl _ hb j hj]
      show (_ && decide (lb x.v6 ≤ j)) = _
      by_cases hl : lb x.v6 ≤ j
      · have h1 : 127 - j < wd x.v6 := by omega
        rw [hd _ h1, show 127 - (127 - j) = j from by omega]
        cases D x j <;> simp [hl, h1]
      · rw [D_low x j (by omega)]
        simp [hl]
    · rw [D_ge _ j (by omega), D_ge _ j (by omega)]
  simpa [hx] using e

theorem next_digits (a : Ad) (h : (nextv a).2 = true) : ∃ k, k < wd a.v6 ∧ D a (127 - k) = false ∧ D (nextv a).1 (127 - k) = true ∧ (∀ j, j < 127 - k → D a j = decide (lb a.v6 ≤ j) ∧ D (nextv a).1 j = false) ∧ ∀ j, 127 - k < j → D a j = D (nextv a).1 j := by
  obtain ⟨h1, h2, _, h4⟩ := next_spec a
  have hV := h4 h
  have hw := wd_lb a.v6
  have hd := lb_dvd a
  obtain ⟨k, hk, hle, hall, hne⟩ := common_spec a (nextv a).1 h1.symm
  have hklt : k < wd a.v6 := by
    rcases Nat.lt_or_ge k (wd a.v6) with hlt | hge
    · exact hlt
    · exfalso
      have e : V a = V (nextv a).1 := by
        apply Nat.eq_of_testBit_eq
        intro j
        by_cases hj : lb a.v6 ≤ j
        · exact hall j (by omega)
        · exact (D_low a j (by omega)).trans (D_low (nextv a).1 j (by rw [h1]; omega)).symm
      have : 0 < 2 ^ lb a.v6 := Nat.two_pow_pos _
      omega
  obtain ⟨b1, b2, b3⟩ := step_bits (V a) (lb a.v6) (127 - k) (by omega) hd (fun j hj => by
    have := hall j (by omega)
    unfold D at this
    rw [hV] at this
    exact this) (by
    have := hne hklt
    unfold D at this
    rw [hV] at this
    exact this)
  have c2 : D (nextv a).1 (127 - k) = true := by unfold D; rw [hV]; exact b2
  refine ⟨k, hklt, b1, c2, fun j hj => ⟨(b3 j hj).1, ?_⟩, fun j hj => hall j (by omega)⟩
  unfold D
  rw [hV]
  exact (b3 j hj).2

/-- All digits ones: there is no next one. -/
theorem next_stops (a : Ad) (h : ∀ j : Nat, j < wd a.v6 → rawv a j = 1) : nextv a = (norm a, false) := by
  have e : (nextv a).2 = false := by
    cases hn : (nextv a).2
    · rfl
    · obtain ⟨k, hk, h0, _⟩ := next_digits a hn
      have := h k hk
      rw [rawv_D a k hk, h0] at this
      simp at this
  obtain ⟨_, _, h3, _⟩ := next_spec a
  rw [← (h3 e).2, ← e]
/-- The last nought becomes one, the ones behind it noughts. -/
theorem next_goes (a : Ad) (x : Nat) (hx : x < wd a.v6) (h0 : rawv a x ≠ 1) (h : ∀ j : Nat, x < j → j < wd a.v6 → rawv a j = 1) :
    (nextv a).2 = true ∧ ofv (fun j => if j = x then 1 else if x < j then 0 else rawv a j) a.v6 = (nextv a).1 := by
  have hw := wd_lb a.v6
  have hx0 : D a (127 - x) = false := by
    rw [rawv_D a x hx] at h0
    cases hd : D a (127 - x)
    · rfl
    · rw [hd] at h0; simp at h0
  have hn : (nextv a).2 = true := by
    cases hn : (nextv a).2
    · exfalso
      obtain ⟨_, _, h3, _⟩ := next_spec a
      have e := (h3 hn).1
      have : D a (127 - x) = true := by
        unfold D
        rw [e]
        unfold top
        rw [ones_bit _ _ _ (by omega)]
        simp; omega
      rw [hx0] at this
      cases this
    · rfl
  refine ⟨hn, ?_⟩
  obtain ⟨h1, h2, _, _⟩ := next_spec a
  obtain ⟨k, hk, c1, c2, c3, c4⟩ := next_digits a hn
  obtain rfl : x = k := by
    rcases Nat.lt_trichotomy x k with hlt | he | hgt
    · have := h k hlt hk
      rw [rawv_D a k hk, c1] at this
      simp at this
    · exact he
    · have := (c3 (127 - x) (by omega)).1
      rw [hx0] at this
      have hl : lb a.v6 ≤ 127 - x := by omega
      simp [hl] at this
  have := of_eq (nextv a).1 (fun j => if j = x then 1 else if x < j then 0 else rawv a j) h2 (fun j hj => ?_)
  · rw [h1] at this
    exact this
  · rw [h1] at hj
    show (if j = x then (1 : Int) else if x < j then 0 else rawv a j) = _
    by_cases e : j = x
    · subst e
      rw [if_pos rfl, c2]; rfl
    · rw [if_neg e]
      by_cases e2 : x < j
      · rw [if_pos e2, (c3 (127 - j) (by omega)).2]; rfl
      · rw [if_neg e2, rawv_D a j hj, c4 (127 - j) (by omega)]

theorem of_raw (a : Ad) : ofv (fun j => rawv a j) a.v6 = norm a :=
  of_eq (norm a) _ (norm_norm a) fun k hk => by rw [rawv_D a k hk, D_norm]
theorem of_set (a : Ad) (k : Nat) (v : Int) (hk : k < wd a.v6) : ofv (fun j => if j = k then bits .and .i64 v 1 else rawv a j) a.v6 = setv a k v := by
  have hw := wd_lb a.v6
  have hv : (setv a k v).v6 = a.v6 := by
    unfold setv
    split
    · split <;> rfl
    · rfl
  have := of_eq (setv a k v) (fun j => if j = k then bits .and .i64 v 1 else rawv a j) (set_norm a k v) (fun j hj => ?_)
  · rw [hv] at this
    exact this
  · rw [hv] at hj
    rw [D_set a k v hk]
    show (if j = k then bits .and .i64 v 1 else rawv a j) = _
    by_cases e : j = k
    · subst e
      rw [if_pos rfl, if_pos rfl, and1_odd]
    · rw [if_neg e, if_neg (show ¬ 127 - j = 127 - k by omega), rawv_D a j hj]
theorem set_out (a : Ad) (i v : Int) (h : ¬ (0 ≤ i ∧ i < wid a.v6)) : setv a i v = norm a := by
  unfold setv
  have : inW a.v6 i = false := by
    unfold inW
    rw [← Bool.decide_and, decide_eq_false_iff_not]
    exact h
  rw [this]
  exact norm_norm _
theorem of_mask (a : Ad) (n : Int) : ofv (fun j => if (max n 0).toNat ≤ j then 0 else rawv a j) a.v6 = maskv a n := by
  have hw := wd_lb a.v6
  refine of_eq (maskv a n) _ (mask_norm a n) fun j hj => ?_
  have hj' : j < wd a.v6 := hj
  rw [D_mask]
  unfold clamp
  rw [wid_wd]
  by_cases e : (max n 0).toNat ≤ j
  · have : ¬ 128 ≤ (((127 - j : Nat) : Int) + min (max n 0) (wd a.v6 : Int)) := by omega
    rw [if_pos e]
    simp [this]
  · have : 128 ≤ (((127 - j : Nat) : Int) + min (max n 0) (wd a.v6 : Int)) := by omega
    rw [if_neg e, rawv_D a j hj']
    simp [this]
theorem of_fill (a : Ad) (n : Int) : ofv (fun j => if (max n 0).toNat ≤ j then 1 else rawv a j) a.v6 = fillv a n := by
  have hw := wd_lb a.v6
  refine of_eq (fillv a n) _ (fill_norm a n) fun j hj => ?_
  have hj' : j < wd a.v6 := hj
  rw [D_fill]
  unfold clamp
  rw [wid_wd]
  have hl : lb a.v6 ≤ 127 - j := by omega
  by_cases e : (max n 0).toNat ≤ j
  · have : (((127 - j : Nat) : Int) + min (max n 0) (wd a.v6 : Int)) < 128 := by omega
    rw [if_pos e]
    simp [this, hl]
  · have : ¬ (((127 - j : Nat) : Int) + min (max n 0) (wd a.v6 : Int)) < 128 := by omega
    rw [if_neg e, rawv_D a j hj']
    simp [this]

end Go.Proofs.Ythdnpilkkegniaa

namespace Go.Proofs.Ythdnpilkkegniaa
open Go.RowKit

theorem Row.set {w : World} {g n : Nat} {f : Nat → Int} (h : Row w g n f) (k : Nat) (v : Int) (hk : k < n) : Row (w.setCell ⟨g, k, none⟩ (.int .i64 v)) g n (fun j => if j = k then v else f j) := by
  refine ⟨by simpa using h.1, fun j hj => ?_, fun j => by rw [World.frozen?_setCell]; exact h.2.2 j⟩
  by_cases e : j = k
  · subst e
    rw [World.cell?_setCell_same _ _ _ (h.2.1 j hj)]
    simp
  · rw [World.cell?_setCell_other _ _ _ _ (fun e' => e (by injection e' with _ e'; exact e'.symm)), h.2.1 j hj]
    simp [e]
theorem Row.congr {w : World} {g n : Nat} {f f' : Nat → Int} (h : Row w g n f) (he : ∀ j, j < n → f j = f' j) : Row w g n f' :=
  ⟨h.1, fun j hj => by rw [h.2.1 j hj, he j hj], h.2.2⟩
theorem of_row (a : Ad) (g c : Nat) (dl : Nat → Int) (w : World) (h : Row w g (wd a.v6) dl) (hb : ∀ j, j < wd a.v6 → 0 ≤ dl j ∧ dl j ≤ 1) :
    Calls Try.prog 175 #[.slice (some ⟨g, 0, none⟩) (wd a.v6) c] w fun e w' => e = .returned (.agg #[.int .u64 (u (ofv dl a.v6).hi), .int .u64 (u (ofv dl a.v6).lo), .bool (ofv dl a.v6).v6]) ∧ Below w.heap.size w w' :=
  of_any a.v6 g c dl w h.1 h.2.1 hb
theorem raw_bd (a : Ad) (j : Nat) (h : j < wd a.v6) : 0 ≤ rawv a j ∧ rawv a j ≤ 1 := rawv_bd a j (by have := wd_lb a.v6; omega)

theorem Box.far {wr : World} {b g k : Nat} {x : Ad} {v : Value} (h : Box wr b x) (hne : g ≠ b) : Box (wr.setCell ⟨g, k, none⟩ v) b x := by
  obtain ⟨h1, h2, h3, h4, h5, h6, h7⟩ := h
  refine ⟨?_, ?_, ?_, ?_, ?_, ?_, ?_⟩
  · rw [World.cell?_setCell_far _ _ _ _ hne]; exact h1
  · rw [World.cell?_setCell_far _ _ _ _ hne]; exact h2
  · rw [World.cell?_setCell_far _ _ _ _ hne]; exact h3
  · rw [World.frozen?_setCell]; exact h4
  · rw [World.frozen?_setCell]; exact h5
  · rw [World.frozen?_setCell]; exact h6
  · simpa using h7
theorem Box.on {w w' : World} {b : Nat} {x : Ad} (h : Box w b x) (hb : Below w.heap.size w w') : Box w' b x := by
  obtain ⟨h1, h2, h3, h4, h5, h6, h7⟩ := h
  exact cells3 hb h7 h1 h2 h3 h4 h5 h6
/-- No address. -/
def nil : Ad := ⟨0#64, 0#64, false⟩

set_option maxHeartbeats 1000000 in
theorem refSet_in (a : Ad) (k : Nat) (v : Int) (hk : k < wd a.v6) (w : World) :
    Calls Try.prog 157 #[.agg #[.int .u64 (u a.hi), .int .u64 (u a.lo), .bool a.v6], .int .i64 k, .int .i64 v] w fun e w' => e = .returned (.agg #[.int .u64 (u (setv a k v).hi), .int .u64 (u (setv a k v).lo), .bool (setv a k v).v6]) ∧ Below w.heap.size w w' := by
  have hw := wd_lb a.v6
  have t1 : decide (0 ≤ (k : Int)) = true := by simp
  have t2 : decide ((k : Int) < (wd a.v6 : Int)) = true := by simp; omega
  have Ho := Lib.hid (of_set a k v hk)
  go_enter Try.func157, Try.ntmps157
  go_wp2_with fail
  refine (refDigits_any a _).mono ?_
  rintro e w1 ⟨g, c, rfl, hg, hrow, hw1⟩
  have b1 := below_of (w := w) (by go_grown) hw1
  obtain ⟨pa, pb, pc, pd, pe, pf, pz⟩ := cells3 (b := w.heap.size) hw1 (by go_size) (by go_simp <;> rfl) (by go_simp <;> rfl) (by go_simp <;> rfl) (by go_simp <;> rfl) (by go_simp <;> rfl) (by go_simp <;> rfl)
  obtain ⟨qa, qb, qc, qd, qe, qf, qz⟩ := cells3 (b := w.heap.size + 1) hw1 (by go_size) (by go_simp <;> rfl) (by go_simp <;> rfl) (by go_simp <;> rfl) (by go_simp <;> rfl) (by go_simp <;> rfl) (by go_simp <;> rfl)
  have HA : Hid (Box w1 w.heap.size a) := Lib.hid ⟨pa, pb, pc, pd, pe, pf, pz⟩
  have HBox : Hid (Box w1 (w.heap.size + 1) nil) := Lib.hid ⟨qa, qb, qc, qd, qe, qf, qz⟩
  have hgw : w.heap.size + 1 + 1 ≤ g := by simpa using hg
  have HR := Lib.hid hrow
  clear hrow hw1 hg pa pb pc pd pe pf pz qa qb qc qd qe qf qz
  have ck := HR.out.2.1 k hk
  have fk := HR.out.2.2 k
  go_wp2_with fail
  generalize hW2 : World.setCell _ _ _ = W2
  have b2 : Below w.heap.size w W2 := by subst hW2; exact b1.setCell (by simp; omega) _
  have R2 : Row W2 g (wd a.v6) (fun j => if j = k then bits .and .i64 v 1 else rawv a j) := by subst hW2; exact HR.out.set k _ hk
  have B2 : Box W2 (w.heap.size + 1) nil := by subst hW2; exact HBox.out.far (by omega)
  clear hW2
  have hof := of_row a g c _ W2 R2 (fun j hj => by
    show 0 ≤ (if j = k then bits .and .i64 v 1 else rawv a j) ∧ (if j = k then bits .and .i64 v 1 else rawv a j) ≤ 1
    split
    · rw [and1_odd]; split <;> omega
    · exact raw_bd a j hj)
  rw [Ho.out] at hof
  refine hof.mono ?_
  rintro e w3 ⟨rfl, h3⟩
  have b3 : Below w.heap.size w w3 := b2.trans (h3.mono b2.size)
  obtain ⟨sa, sb, sc, sd, se, sf, sz⟩ := B2.on h3
  clear h3
  go_wp2
  refine bodyPost_ret (v := .agg #[.int .u64 (u (setv a k v).hi), .int .u64 (u (setv a k v).lo), .bool (setv a k v).v6]) (by simp [*, results, Try.results157, go_sem] <;> rfl) rfl ⟨rfl, ?_⟩
  go_grown

set_option maxHeartbeats 1000000 in
theorem refSet_out (a : Ad) (i : Int) (v : Int) (hi : ¬ (0 ≤ i ∧ i < wid a.v6)) (w : World) :
    Calls Try.prog 157 #[.agg #[.int .u64 (u a.hi), .int .u64 (u a.lo), .bool a.v6], .int .i64 i, .int .i64 v] w fun e w' => e = .returned (.agg #[.int .u64 (u (setv a i v).hi), .int .u64 (u (setv a i v).lo), .bool (setv a i v).v6]) ∧ Below w.heap.size w w' := by
  rw [set_out a i v hi]
  have hw := wd_lb a.v6
  rw [wid_wd] at hi
  have Ho := Lib.hid (of_raw a)
  by_cases h0 : 0 ≤ i
  · have t1 : decide (0 ≤ i) = true := by simp [h0]
    have t2 : decide (i < (wd a.v6 : Int)) = false := by simp; omega
    clear hi
    go_enter Try.func157, Try.ntmps157
    go_wp2_with fail
    refine (refDigits_any a _).mono ?_
    rintro e w1 ⟨g, c, rfl, hg, hrow, hw1⟩
    have b1 := below_of (w := w) (by go_grown) hw1
    obtain ⟨pa, pb, pc, pd, pe, pf, pz⟩ := cells3 (b := w.heap.size) hw1 (by go_size) (by go_simp <;> rfl) (by go_simp <;> rfl) (by go_simp <;> rfl) (by go_simp <;> rfl) (by go_simp <;> rfl) (by go_simp <;> rfl)
    obtain ⟨qa, qb, qc, qd, qe, qf, qz⟩ := cells3 (b := w.heap.size + 1) hw1 (by go_size) (by go_simp <;> rfl) (by go_simp <;> rfl) (by go_simp <;> rfl) (by go_simp <;> rfl) (by go_simp <;> rfl) (by go_simp <;> rfl)
    have HA : Hid (Box w1 w.heap.size a) := Lib.hid ⟨pa, pb, pc, pd, pe, pf, pz⟩
    have HBox : Hid (Box w1 (w.heap.size + 1) nil) := Lib.hid ⟨qa, qb, qc, qd, qe, qf, qz⟩
    have hgw : w.heap.size + 1 + 1 ≤ g := by simpa using hg
    have HR := Lib.hid hrow
    clear hrow hw1 hg pa pb pc pd pe pf pz qa qb qc qd qe qf qz
    go_wp2_with fail
    have hof := of_row a g c _ w1 HR.out (fun j hj => raw_bd a j hj)
    rw [Ho.out] at hof
    have b2 := b1
    have B2 := HBox.out
    refine hof.mono ?_
    rintro e w3 ⟨rfl, h3⟩
    have b3 : Below w.heap.size w w3 := b2.trans (h3.mono b2.size)
    obtain ⟨sa, sb, sc, sd, se, sf, sz⟩ := B2.on h3
    clear h3
    go_wp2
    refine bodyPost_ret (v := .agg #[.int .u64 (u (norm a).hi), .int .u64 (u (norm a).lo), .bool (norm a).v6]) (by simp [*, results, Try.results157, go_sem] <;> rfl) rfl ⟨rfl, ?_⟩
    go_grown
  · have t1 : decide (0 ≤ i) = false := by simp [h0]
    clear hi
    go_enter Try.func157, Try.ntmps157
    go_wp2_with fail
    refine (refDigits_any a _).mono ?_
    rintro e w1 ⟨g, c, rfl, hg, hrow, hw1⟩
    have b1 := below_of (w := w) (by go_grown) hw1
    obtain ⟨pa, pb, pc, pd, pe, pf, pz⟩ := cells3 (b := w.heap.size) hw1 (by go_size) (by go_simp <;> rfl) (by go_simp <;> rfl) (by go_simp <;> rfl) (by go_simp <;> rfl) (by go_simp <;> rfl) (by go_simp <;> rfl)
    obtain ⟨qa, qb, qc, qd, qe, qf, qz⟩ := cells3 (b := w.heap.size + 1) hw1 (by go_size) (by go_simp <;> rfl) (by go_simp <;> rfl) (by go_simp <;> rfl) (by go_simp <;> rfl) (by go_simp <;> rfl) (by go_simp <;> rfl)
    have HA : Hid (Box w1 w.heap.size a) := Lib.hid ⟨pa, pb, pc, pd, pe, pf, pz⟩
    have HBox : Hid (Box w1 (w.heap.size + 1) nil) := Lib.hid ⟨qa, qb, qc, qd, qe, qf, qz⟩
    have hgw : w.heap.size + 1 + 1 ≤ g := by simpa using hg
    have HR := Lib.hid hrow
    clear hrow hw1 hg pa pb pc pd pe pf pz qa qb qc qd qe qf qz
    go_wp2_with fail
    have hof := of_row a g c _ w1 HR.out (fun j hj => raw_bd a j hj)
    rw [Ho.out] at hof
    have b2 := b1
    have B2 := HBox.out
    refine hof.mono ?_
    rintro e w3 ⟨rfl, h3⟩
    have b3 : Below w.heap.size w w3 := b2.trans (h3.mono b2.size)
    obtain ⟨sa, sb, sc, sd, se, sf, sz⟩ := B2.on h3
    clear h3
    go_wp2
    refine bodyPost_ret (v := .agg #[.int .u64 (u (norm a).hi), .int .u64 (u (norm a).lo), .bool (norm a).v6]) (by simp [*, results, Try.results157, go_sem] <;> rfl) rfl ⟨rfl, ?_⟩
    go_grown
theorem refSet_any (a : Ad) (i v : Int) (w : World) :
    Calls Try.prog 157 #[.agg #[.int .u64 (u a.hi), .int .u64 (u a.lo), .bool a.v6], .int .i64 i, .int .i64 v] w fun e w' => e = .returned (.agg #[.int .u64 (u (setv a i v).hi), .int .u64 (u (setv a i v).lo), .bool (setv a i v).v6]) ∧ Below w.heap.size w w' := by
  by_cases h : 0 ≤ i ∧ i < wid a.v6
  · obtain ⟨k, rfl⟩ := Int.eq_ofNat_of_zero_le h.1
    exact refSet_in a k v (by rw [wid_wd] at h; omega) w
  · exact refSet_out a i v h w

set_option maxHeartbeats 1000000 in
theorem fromv_any (a : Ad) (n : Int) (M : Nat) (v : Int) (hM : M = (max n 0).toNat) (hv : 0 ≤ v ∧ v ≤ 1) (w : World) :
    Calls Try.prog 184 #[.agg #[.int .u64 (u a.hi), .int .u64 (u a.lo), .bool a.v6], .int .i64 n, .int .i64 v] w fun e w' => e = .returned (.agg #[.int .u64 (u (ofv (fun j => if M ≤ j then v else rawv a j) a.v6).hi), .int .u64 (u (ofv (fun j => if M ≤ j then v else rawv a j) a.v6).lo), .bool (ofv (fun j => if M ≤ j then v else rawv a j) a.v6).v6]) ∧ Below w.heap.size w w' := by
  have hw := wd_lb a.v6
  by_cases hn : n < 0
  · obtain rfl : M = 0 := by omega
    clear hM
    go_enter Try.func184, Try.ntmps184
    go_wp2_with fail
    refine (refDigits_any a _).mono ?_
    rintro e w1 ⟨g, c, rfl, hg, hrow, hw1⟩
    have b1 := below_of (w := w) (by go_grown) hw1
    obtain ⟨pa, pb, pc, pd, pe, pf, pz⟩ := cells3 (b := w.heap.size) hw1 (by go_size) (by go_simp <;> rfl) (by go_simp <;> rfl) (by go_simp <;> rfl) (by go_simp <;> rfl) (by go_simp <;> rfl) (by go_simp <;> rfl)
    obtain ⟨qa, qb, qc, qd, qe, qf, qz⟩ := cells3 (b := w.heap.size + 1) hw1 (by go_size) (by go_simp <;> rfl) (by go_simp <;> rfl) (by go_simp <;> rfl) (by go_simp <;> rfl) (by go_simp <;> rfl) (by go_simp <;> rfl)
    have HA : Hid (Box w1 w.heap.size a) := Lib.hid ⟨pa, pb, pc, pd, pe, pf, pz⟩
    have HBox : Hid (Box w1 (w.heap.size + 1) nil) := Lib.hid ⟨qa, qb, qc, qd, qe, qf, qz⟩
    have hgw : w.heap.size + 1 + 1 ≤ g := by simpa using hg
    have HR := Lib.hid hrow
    clear hrow hw1 hg pa pb pc pd pe pf pz qa qb qc qd qe qf qz
    go_wp2_with fail
    go_loopw [8] (fun i wr => ∃ x : Nat, 0 ≤ x ∧ (x ≤ wd a.v6 ∨ x = 0) ∧ i = .int .i64 x ∧ Hid (Row wr g (wd a.v6) (fun j => if 0 ≤ j ∧ j < x then v else rawv a j)) ∧ Hid (Box wr (w.heap.size + 1) nil) ∧ Below w.heap.size w wr) (fun i _ => wd a.v6 - (intOf i).toNat)
    case atStart =>
      refine ⟨0, by omega, .inr rfl, rfl, Lib.hid (HR.out.congr fun j hj => ?_), HBox, b1⟩
      rw [if_neg (by omega)]
    case round =>
      obtain ⟨x, hx0, hx1, rfl, hR, hX, hB⟩ := hrel
      by_cases hlt : x < wd a.v6
      · have hlt' : (x : Int) < (wd a.v6 : Int) := by omega
        have ck := hR.out.2.1 x hlt
        have fk := hR.out.2.2 x
        go_wp2_with fail
        refine ⟨⟨x + 1, by omega, .inl (by omega), by go_num, Lib.hid ((hR.out.set x v hlt).congr fun j hj => ?_), Lib.hid (hX.out.far (by omega)), hB.setCell (by simp; omega) _⟩, by simp [intOf]; omega⟩
        show (if j = x then v else if 0 ≤ j ∧ j < x then v else rawv a j) = if 0 ≤ j ∧ j < x + 1 then v else rawv a j
        by_cases e : j = x
        · subst e
          rw [if_pos rfl, if_pos (by omega)]
        · rw [if_neg e]
          by_cases e2 : 0 ≤ j ∧ j < x
          · rw [if_pos e2, if_pos (by omega)]
          · rw [if_neg e2, if_neg (by omega)]
      · have hlt' : ¬ (x : Int) < (wd a.v6 : Int) := by omega
        have R2 := hR.out.congr (f' := fun j => if 0 ≤ j then v else rawv a j) (fun j hj => by
          by_cases e : 0 ≤ j
          · rw [if_pos ⟨e, by omega⟩, if_pos e]
          · rw [if_neg (fun h => e h.1), if_neg e])
        have B2 := hX.out
        have b2 := hB
        clear hB
        have HH := Lib.hid (of_row a g c _ wr R2 (fun j hj => by
          show 0 ≤ (if 0 ≤ j then v else rawv a j) ∧ (if 0 ≤ j then v else rawv a j) ≤ 1
          split
          · exact hv
          · exact raw_bd a j hj))
        clear R2
        go_wp2_with fail
        refine HH.out.mono ?_
        rintro e w3 ⟨rfl, h3⟩
        have b3 : Below w.heap.size w w3 := b2.trans (h3.mono b2.size)
        obtain ⟨sa, sb, sc, sd, se, sf, sz⟩ := B2.on h3
        clear h3
        go_wp2
        refine bodyPost_ret (v := .agg #[.int .u64 (u (ofv (fun j => if 0 ≤ j then v else rawv a j) a.v6).hi), .int .u64 (u (ofv (fun j => if 0 ≤ j then v else rawv a j) a.v6).lo), .bool (ofv (fun j => if 0 ≤ j then v else rawv a j) a.v6).v6]) (by simp [*, results, Try.results184, go_sem] <;> rfl) rfl ⟨rfl, ?_⟩
        go_grown
  · obtain ⟨m, rfl⟩ := Int.eq_ofNat_of_zero_le (show 0 ≤ n by omega)
    obtain rfl : M = m := by omega
    clear hM
    go_enter Try.func184, Try.ntmps184
    go_wp2_with fail
    refine (refDigits_any a _).mono ?_
    rintro e w1 ⟨g, c, rfl, hg, hrow, hw1⟩
    have b1 := below_of (w := w) (by go_grown) hw1
    obtain ⟨pa, pb, pc, pd, pe, pf, pz⟩ := cells3 (b := w.heap.size) hw1 (by go_size) (by go_simp <;> rfl) (by go_simp <;> rfl) (by go_simp <;> rfl) (by go_simp <;> rfl) (by go_simp <;> rfl) (by go_simp <;> rfl)
    obtain ⟨qa, qb, qc, qd, qe, qf, qz⟩ := cells3 (b := w.heap.size + 1) hw1 (by go_size) (by go_simp <;> rfl) (by go_simp <;> rfl) (by go_simp <;> rfl) (by go_simp <;> rfl) (by go_simp <;> rfl) (by go_simp <;> rfl)
    have HA : Hid (Box w1 w.heap.size a) := Lib.hid ⟨pa, pb, pc, pd, pe, pf, pz⟩
    have HBox : Hid (Box w1 (w.heap.size + 1) nil) := Lib.hid ⟨qa, qb, qc, qd, qe, qf, qz⟩
    have hgw : w.heap.size + 1 + 1 ≤ g := by simpa using hg
    have HR := Lib.hid hrow
    clear hrow hw1 hg pa pb pc pd pe pf pz qa qb qc qd qe qf qz
    go_wp2_with fail
    go_loopw [8] (fun i wr => ∃ x : Nat, M ≤ x ∧ (x ≤ wd a.v6 ∨ x = M) ∧ i = .int .i64 x ∧ Hid (Row wr g (wd a.v6) (fun j => if M ≤ j ∧ j < x then v else rawv a j)) ∧ Hid (Box wr (w.heap.size + 1) nil) ∧ Below w.heap.size w wr) (fun i _ => wd a.v6 - (intOf i).toNat)
    case atStart =>
      refine ⟨M, by omega, .inr rfl, rfl, Lib.hid (HR.out.congr fun j hj => ?_), HBox, b1⟩
      rw [if_neg (by omega)]
    case round =>
      obtain ⟨x, hx0, hx1, rfl, hR, hX, hB⟩ := hrel
      by_cases hlt : x < wd a.v6
      · have hlt' : (x : Int) < (wd a.v6 : Int) := by omega
        have ck := hR.out.2.1 x hlt
        have fk := hR.out.2.2 x
        go_wp2_with fail
        refine ⟨⟨x + 1, by omega, .inl (by omega), by go_num, Lib.hid ((hR.out.set x v hlt).congr fun j hj => ?_), Lib.hid (hX.out.far (by omega)), hB.setCell (by simp; omega) _⟩, by simp [intOf]; omega⟩
        show (if j = x then v else if M ≤ j ∧ j < x then v else rawv a j) = if M ≤ j ∧ j < x + 1 then v else rawv a j
        by_cases e : j = x
        · subst e
          rw [if_pos rfl, if_pos (by omega)]
        · rw [if_neg e]
          by_cases e2 : M ≤ j ∧ j < x
          · rw [if_pos e2, if_pos (by omega)]
          · rw [if_neg e2, if_neg (by omega)]
      · have hlt' : ¬ (x : Int) < (wd a.v6 : Int) := by omega
        have R2 := hR.out.congr (f' := fun j => if M ≤ j then v else rawv a j) (fun j hj => by
          by_cases e : M ≤ j
          · rw [if_pos ⟨e, by omega⟩, if_pos e]
          · rw [if_neg (fun h => e h.1), if_neg e])
        have B2 := hX.out
        have b2 := hB
        clear hB
        have HH := Lib.hid (of_row a g c _ wr R2 (fun j hj => by
          show 0 ≤ (if M ≤ j then v else rawv a j) ∧ (if M ≤ j then v else rawv a j) ≤ 1
          split
          · exact hv
          · exact raw_bd a j hj))
        clear R2
        go_wp2_with fail
        refine HH.out.mono ?_
        rintro e w3 ⟨rfl, h3⟩
        have b3 : Below w.heap.size w w3 := b2.trans (h3.mono b2.size)
        obtain ⟨sa, sb, sc, sd, se, sf, sz⟩ := B2.on h3
        clear h3
        go_wp2
        refine bodyPost_ret (v := .agg #[.int .u64 (u (ofv (fun j => if M ≤ j then v else rawv a j) a.v6).hi), .int .u64 (u (ofv (fun j => if M ≤ j then v else rawv a j) a.v6).lo), .bool (ofv (fun j => if M ≤ j then v else rawv a j) a.v6).v6]) (by simp [*, results, Try.results184, go_sem] <;> rfl) rfl ⟨rfl, ?_⟩
        go_grown

end Go.Proofs.Ythdnpilkkegniaa

namespace Go.Proofs.Ythdnpilkkegniaa
open Go.RowKit

set_option maxHeartbeats 1000000 in
theorem refMask_any (a : Ad) (n : Int) (w : World) :
    Calls Try.prog 178 #[.agg #[.int .u64 (u a.hi), .int .u64 (u a.lo), .bool a.v6], .int .i64 n] w fun e w' => e = .returned (.agg #[.int .u64 (u (maskv a n).hi), .int .u64 (u (maskv a n).lo), .bool (maskv a n).v6]) ∧ Below w.heap.size w w' := by
  have hf := fun W => fromv_any a n _ 0 rfl (by omega) W
  rw [of_mask] at hf
  have HF := Lib.hid hf
  clear hf
  go_enter Try.func178, Try.ntmps178
  go_wp2_with fail
  refine (HF.out _).mono ?_
  rintro e w3 ⟨rfl, h3⟩
  have b3 := below_of (w := w) (by go_grown) h3
  obtain ⟨qa, qb, qc, qd, qe, qf, qz⟩ := cells3 (b := w.heap.size + 1) h3 (by go_size) (by go_simp <;> rfl) (by go_simp <;> rfl) (by go_simp <;> rfl) (by go_simp <;> rfl) (by go_simp <;> rfl) (by go_simp <;> rfl)
  clear h3
  go_wp2
  refine bodyPost_ret (v := .agg #[.int .u64 (u (maskv a n).hi), .int .u64 (u (maskv a n).lo), .bool (maskv a n).v6]) (by simp [*, results, Try.results178, go_sem] <;> rfl) rfl ⟨rfl, ?_⟩
  go_grown
end Go.Proofs.Ythdnpilkkegniaa

namespace Go.Proofs.Ythdnpilkkegniaa
open Go.RowKit

set_option maxHeartbeats 400000 in
theorem rpof_any (a : Ad) (n : Int) (w : World) :
    Calls Try.prog 161 #[.agg #[.int .u64 (u a.hi), .int .u64 (u a.lo), .bool a.v6], .int .i64 n] w fun e w' => e = .returned (.agg #[.int .u64 (u (pof a n).a.hi), .int .u64 (u (pof a n).a.lo), .bool (pof a n).a.v6, .int .i64 (pof a n).n]) ∧ Below w.heap.size w w' := by
  have hw := wid_bd a.v6
  by_cases h1 : n ≤ wid a.v6
  · by_cases h0 : n ≤ 0
    · rw [pof_of a n 0 (by unfold clamp; omega)]
      go_enter Try.func161, Try.ntmps161
      go_wp2_with fail
      refine (refWidth_any a.v6 _).mono ?_
      rintro e w1 ⟨rfl, rfl⟩
      go_wp2_with fail
      refine (refMask_any a 0 _).mono ?_
      rintro e w2 ⟨rfl, hw2⟩
      have zw2 := hw2.size
      have bw2 := below_of (w := w) (by go_grown) hw2
      try simp at zw2
      obtain ⟨qa, qb, qc, qg, qd, qe, qf, qh, qz⟩ := cells4 (b := w.heap.size + 1) hw2 (by go_size) (by go_simp <;> rfl) (by go_simp <;> rfl) (by go_simp <;> rfl) (by go_simp <;> rfl) (by go_simp <;> rfl) (by go_simp <;> rfl) (by go_simp <;> rfl) (by go_simp <;> rfl)
      clear hw2
      go_wp2
      refine bodyPost_ret (v := .agg #[.int .u64 (u (Pf.mk (maskv a 0) 0).a.hi), .int .u64 (u (Pf.mk (maskv a 0) 0).a.lo), .bool (Pf.mk (maskv a 0) 0).a.v6, .int .i64 (Pf.mk (maskv a 0) 0).n]) (by simp [*, results, Try.results161, go_sem] <;> rfl) rfl ⟨rfl, ?_⟩
      go_grown
    · rw [pof_of a n n (by unfold clamp; omega)]
      go_enter Try.func161, Try.ntmps161
      go_wp2_with fail
      refine (refWidth_any a.v6 _).mono ?_
      rintro e w1 ⟨rfl, rfl⟩
      go_wp2_with fail
      refine (refMask_any a n _).mono ?_
      rintro e w2 ⟨rfl, hw2⟩
      have zw2 := hw2.size
      have bw2 := below_of (w := w) (by go_grown) hw2
      try simp at zw2
      obtain ⟨qa, qb, qc, qg, qd, qe, qf, qh, qz⟩ := cells4 (b := w.heap.size + 1) hw2 (by go_size) (by go_simp <;> rfl) (by go_simp <;> rfl) (by go_simp <;> rfl) (by go_simp <;> rfl) (by go_simp <;> rfl) (by go_simp <;> rfl) (by go_simp <;> rfl) (by go_simp <;> rfl)
      clear hw2
      go_wp2
      refine bodyPost_ret (v := .agg #[.int .u64 (u (Pf.mk (maskv a n) n).a.hi), .int .u64 (u (Pf.mk (maskv a n) n).a.lo), .bool (Pf.mk (maskv a n) n).a.v6, .int .i64 (Pf.mk (maskv a n) n).n]) (by simp [*, results, Try.results161, go_sem] <;> rfl) rfl ⟨rfl, ?_⟩
      go_grown
  · rw [pof_of a n (wid a.v6) (by unfold clamp; omega)]
    go_enter Try.func161, Try.ntmps161
    go_wp2_with fail
    refine (refWidth_any a.v6 _).mono ?_
    rintro e w1 ⟨rfl, rfl⟩
    go_wp2_with fail
    refine (refMask_any a (wid a.v6) _).mono ?_
    rintro e w2 ⟨rfl, hw2⟩
    have zw2 := hw2.size
    have bw2 := below_of (w := w) (by go_grown) hw2
    try simp at zw2
    obtain ⟨qa, qb, qc, qg, qd, qe, qf, qh, qz⟩ := cells4 (b := w.heap.size + 1) hw2 (by go_size) (by go_simp <;> rfl) (by go_simp <;> rfl) (by go_simp <;> rfl) (by go_simp <;> rfl) (by go_simp <;> rfl) (by go_simp <;> rfl) (by go_simp <;> rfl) (by go_simp <;> rfl)
    clear hw2
    go_wp2
    refine bodyPost_ret (v := .agg #[.int .u64 (u (Pf.mk (maskv a (wid a.v6)) (wid a.v6)).a.hi), .int .u64 (u (Pf.mk (maskv a (wid a.v6)) (wid a.v6)).a.lo), .bool (Pf.mk (maskv a (wid a.v6)) (wid a.v6)).a.v6, .int .i64 (Pf.mk (maskv a (wid a.v6)) (wid a.v6)).n]) (by simp [*, results, Try.results161, go_sem] <;> rfl) rfl ⟨rfl, ?_⟩
    go_grown

set_option maxHeartbeats 1000000 in
theorem rpsane_any (p : Pf) (w : World) :
    Calls Try.prog 83 #[.agg #[.int .u64 (u p.a.hi), .int .u64 (u p.a.lo), .bool p.a.v6, .int .i64 p.n]] w fun e w' => e = .returned (.bool (psane p)) ∧ Below w.heap.size w w' := by
  have hw := wid_bd p.a.v6
  cases hs : saneB p.a
  · have hr := Lib.hid (psane_not p (by simp [hs]))
    have hs' : (!saneB p.a) = true := by simp [hs]
    clear hs
    go_enter Try.func83, Try.ntmps83
    go_wp2_with fail
    generalize hW : World.alloc _ _ = W
    have hz : w.heap.size ≤ W.heap.size := by subst hW; go_size
    have hB : Below w.heap.size w W := by subst hW; go_grown
    obtain ⟨pa, pb, pc, pg, pd, pe, pf, ph, pz⟩ := cells4 (W := W) (b := w.heap.size) (Below.refl _ W) (by subst hW; go_size) (by subst hW; go_simp <;> rfl) (by subst hW; go_simp <;> rfl) (by subst hW; go_simp <;> rfl) (by subst hW; go_simp <;> rfl) (by subst hW; go_simp <;> rfl) (by subst hW; go_simp <;> rfl) (by subst hW; go_simp <;> rfl) (by subst hW; go_simp <;> rfl)
    clear hW
    have Lpa := fun x : Later W.heap.size W => (x.cell pz).trans pa
    have Lpb := fun x : Later W.heap.size W => (x.cell pz).trans pb
    have Lpc := fun x : Later W.heap.size W => (x.cell pz).trans pc
    have Lpg := fun x : Later W.heap.size W => (x.cell pz).trans pg
    refine region_later W.heap.size (by kernel_rfl) (by kernel_rfl) ?_
    repeat (go_big_quiet_step (first | (go_at_call 125; exact later_of (Nat.le_refl _) (refSane_any p.a _)) | (go_at_call 126; exact later_same (refWidth_any _ _))))
    refine wpQuiet_nil ?_
    intro x
    have hx : Below w.heap.size w x.at := hB.trans (x.below.mono hz)
    clear Lpa Lpb Lpc Lpg
    obtain ⟨p'a, p'b, p'c, p'g, p'd, p'e, p'f, p'h, p'z⟩ := cells4 x.below pz pa pb pc pg pd pe pf ph
    clear pa pb pc pd pe pf pg ph pz
    generalize x.at = w1 at *
    clear x hB hz W
    go_wp2
    go_ret
    exact ⟨ret_bool hr.out.symm, hx⟩
  · have hs' : (!saneB p.a) = false := by simp [hs]
    by_cases h0 : p.n < 0
    · have hr := Lib.hid (psane_not p (by omega))
      have t0 : decide (p.n < 0) = true := by simp [h0]
      clear hs
      go_enter Try.func83, Try.ntmps83
      go_wp2_with fail
      generalize hW : World.alloc _ _ = W
      have hz : w.heap.size ≤ W.heap.size := by subst hW; go_size
      have hB : Below w.heap.size w W := by subst hW; go_grown
      obtain ⟨pa, pb, pc, pg, pd, pe, pf, ph, pz⟩ := cells4 (W := W) (b := w.heap.size) (Below.refl _ W) (by subst hW; go_size) (by subst hW; go_simp <;> rfl) (by subst hW; go_simp <;> rfl) (by subst hW; go_simp <;> rfl) (by subst hW; go_simp <;> rfl) (by subst hW; go_simp <;> rfl) (by subst hW; go_simp <;> rfl) (by subst hW; go_simp <;> rfl) (by subst hW; go_simp <;> rfl)
      clear hW
      have Lpa := fun x : Later W.heap.size W => (x.cell pz).trans pa
      have Lpb := fun x : Later W.heap.size W => (x.cell pz).trans pb
      have Lpc := fun x : Later W.heap.size W => (x.cell pz).trans pc
      have Lpg := fun x : Later W.heap.size W => (x.cell pz).trans pg
      refine region_later W.heap.size (by kernel_rfl) (by kernel_rfl) ?_
      repeat (go_big_quiet_step (first | (go_at_call 125; exact later_of (Nat.le_refl _) (refSane_any p.a _)) | (go_at_call 126; exact later_same (refWidth_any _ _))))
      refine wpQuiet_nil ?_
      intro x
      have hx : Below w.heap.size w x.at := hB.trans (x.below.mono hz)
      clear Lpa Lpb Lpc Lpg
      obtain ⟨p'a, p'b, p'c, p'g, p'd, p'e, p'f, p'h, p'z⟩ := cells4 x.below pz pa pb pc pg pd pe pf ph
      clear pa pb pc pd pe pf pg ph pz
      generalize x.at = w1 at *
      clear x hB hz W
      go_wp2
      go_ret
      exact ⟨ret_bool hr.out.symm, hx⟩
    · have t0 : decide (p.n < 0) = false := by simp [h0]
      by_cases h1 : wid p.a.v6 < p.n
      · have hr := Lib.hid (psane_not p (by omega))
        have t1 : decide (wid p.a.v6 < p.n) = true := by simp [h1]
        clear hs
        go_enter Try.func83, Try.ntmps83
        go_wp2_with fail
        generalize hW : World.alloc _ _ = W
        have hz : w.heap.size ≤ W.heap.size := by subst hW; go_size
        have hB : Below w.heap.size w W := by subst hW; go_grown
        obtain ⟨pa, pb, pc, pg, pd, pe, pf, ph, pz⟩ := cells4 (W := W) (b := w.heap.size) (Below.refl _ W) (by subst hW; go_size) (by subst hW; go_simp <;> rfl) (by subst hW; go_simp <;> rfl) (by subst hW; go_simp <;> rfl) (by subst hW; go_simp <;> rfl) (by subst hW; go_simp <;> rfl) (by subst hW; go_simp <;> rfl) (by subst hW; go_simp <;> rfl) (by subst hW; go_simp <;> rfl)
        clear hW
        have Lpa := fun x : Later W.heap.size W => (x.cell pz).trans pa
        have Lpb := fun x : Later W.heap.size W => (x.cell pz).trans pb
        have Lpc := fun x : Later W.heap.size W => (x.cell pz).trans pc
        have Lpg := fun x : Later W.heap.size W => (x.cell pz).trans pg
        refine region_later W.heap.size (by kernel_rfl) (by kernel_rfl) ?_
        repeat (go_big_quiet_step (first | (go_at_call 125; exact later_of (Nat.le_refl _) (refSane_any p.a _)) | (go_at_call 126; exact later_same (refWidth_any _ _))))
        refine wpQuiet_nil ?_
        intro x
        have hx : Below w.heap.size w x.at := hB.trans (x.below.mono hz)
        clear Lpa Lpb Lpc Lpg
        obtain ⟨p'a, p'b, p'c, p'g, p'd, p'e, p'f, p'h, p'z⟩ := cells4 x.below pz pa pb pc pg pd pe pf ph
        clear pa pb pc pd pe pf pg ph pz
        generalize x.at = w1 at *
        clear x hB hz W
        go_wp2
        go_ret
        exact ⟨ret_bool hr.out.symm, hx⟩
      · have t1 : decide (wid p.a.v6 < p.n) = false := by simp [h1]
        have hy := Lib.hid (psane_bits p hs (by omega) (by omega))
        have hn := Lib.hid (psane_bit p)
        clear hs
        go_enter Try.func83, Try.ntmps83
        go_wp2_with fail
        generalize hW : World.alloc _ _ = W
        have hz : w.heap.size ≤ W.heap.size := by subst hW; go_size
        have hB : Below w.heap.size w W := by subst hW; go_grown
        obtain ⟨pa, pb, pc, pg, pd, pe, pf, ph, pz⟩ := cells4 (W := W) (b := w.heap.size) (Below.refl _ W) (by subst hW; go_size) (by subst hW; go_simp <;> rfl) (by subst hW; go_simp <;> rfl) (by subst hW; go_simp <;> rfl) (by subst hW; go_simp <;> rfl) (by subst hW; go_simp <;> rfl) (by subst hW; go_simp <;> rfl) (by subst hW; go_simp <;> rfl) (by subst hW; go_simp <;> rfl)
        clear hW
        have Lpa := fun x : Later W.heap.size W => (x.cell pz).trans pa
        have Lpb := fun x : Later W.heap.size W => (x.cell pz).trans pb
        have Lpc := fun x : Later W.heap.size W => (x.cell pz).trans pc
        have Lpg := fun x : Later W.heap.size W => (x.cell pz).trans pg
        refine region_later W.heap.size (by kernel_rfl) (by kernel_rfl) ?_
        repeat (go_big_quiet_step (first | (go_at_call 125; exact later_of (Nat.le_refl _) (refSane_any p.a _)) | (go_at_call 126; exact later_same (refWidth_any _ _))))
        refine wpQuiet_nil ?_
        intro x
        have hx : Below w.heap.size w x.at := hB.trans (x.below.mono hz)
        clear Lpa Lpb Lpc Lpg
        obtain ⟨p'a, p'b, p'c, p'g, p'd, p'e, p'f, p'h, p'z⟩ := cells4 x.below pz pa pb pc pg pd pe pf ph
        clear pa pb pc pd pe pf pg ph pz
        generalize x.at = w1 at *
        clear x hB hz W
        go_wp2_with fail
        go_loopw [3] (fun v wr => ∃ i : Int, v = .int .i64 i ∧ p.n ≤ i ∧ i ≤ wid p.a.v6 ∧ Hid (∀ j : Nat, p.n ≤ (j : Int) → (j : Int) < i → bitv p.a (j : Int) = 0) ∧ PBox wr w.heap.size p ∧ Below w.heap.size w wr) (fun v _ => (wid p.a.v6 - intOf v).toNat)
        case atStart =>
          exact ⟨p.n, rfl, Int.le_refl _, by omega, fun j h2 h3 => absurd h3 (by omega), ⟨p'a, p'b, p'c, p'g, p'd, p'e, p'f, p'h, p'z⟩, hx⟩
        case round =>
          clear p'a p'b p'c p'd p'e p'f p'g p'h p'z hx
          obtain ⟨i, rfl, h2, h3, hall, ⟨pa, pb, pc, pg, pd, pe, pf, ph, pz⟩, hB⟩ := hrel
          by_cases hlt : i < wid p.a.v6
          · have tl' : decide (i < wid p.a.v6) = true := by simp [hlt]
            by_cases hb : bitv p.a i = 0
            · have hb' : (bitv p.a i == 0) = true := by simp [hb]
              have Hb := Lib.hid hb
              clear hb
              go_wp2_with fail
              refine (refWidth_any p.a.v6 _).mono ?_
              rintro e w2 ⟨rfl, rfl⟩
              go_wp2_with fail
              refine (refBit_any p.a i _).mono ?_
              rintro e w3 ⟨rfl, h4⟩
              obtain ⟨p'a, p'b, p'c, p'g, p'd, p'e, p'f, p'h, p'z⟩ := cells4 h4 pz pa pb pc pg pd pe pf ph
              have b3 := hB.trans (h4.mono hB.size)
              clear h4 hB pa pb pc pd pe pf pg ph pz
              go_wp2_with fail
              refine ⟨⟨i + 1, rfl, by omega, by omega, fun j h5 h6 => ?_, ⟨p'a, p'b, p'c, p'g, p'd, p'e, p'f, p'h, p'z⟩, b3⟩, by simp [intOf]; omega⟩
              by_cases e : (j : Int) = i
              · rw [e]; exact Hb.out
              · exact hall.out j h5 (by omega)
            · have hb' : (bitv p.a i == 0) = false := by simp [hb]
              have hr : Hid (psane p = false) := by
                cases hp : psane p
                · exact rfl
                · obtain ⟨k, rfl⟩ := Int.eq_ofNat_of_zero_le (show 0 ≤ i by omega)
                  rw [wid_wd] at hlt
                  exact absurd (hn.out hp k h2 (by omega)) hb
              clear hb
              go_wp2_with fail
              refine (refWidth_any p.a.v6 _).mono ?_
              rintro e w2 ⟨rfl, rfl⟩
              go_wp2_with fail
              refine (refBit_any p.a i _).mono ?_
              rintro e w3 ⟨rfl, h4⟩
              have b3 := hB.trans (h4.mono hB.size)
              clear h4 hB pa pb pc pd pe pf pg ph pz
              go_wp2
              go_ret
              exact ⟨ret_bool hr.out.symm, b3⟩
          · have tl' : decide (i < wid p.a.v6) = false := by simp [hlt]
            have hr : Hid (psane p = true) := hy.out fun j h5 h6 => hall.out j h5 (by rw [wid_wd] at hlt; omega)
            go_wp2_with fail
            refine (refWidth_any p.a.v6 _).mono ?_
            rintro e w2 ⟨rfl, rfl⟩
            go_wp2
            go_ret
            exact ⟨ret_bool hr.out.symm, hB⟩

set_option maxHeartbeats 1000000 in
theorem rpcon_any (p : Pf) (a : Ad) (w : World) :
    Calls Try.prog 93 #[.agg #[.int .u64 (u p.a.hi), .int .u64 (u p.a.lo), .bool p.a.v6, .int .i64 p.n], .agg #[.int .u64 (u a.hi), .int .u64 (u a.lo), .bool a.v6]] w fun e w' => e = .returned (.bool (pcon p a)) ∧ Below w.heap.size w w' := by
  cases hs : psane p
  · have hr : Hid (pcon p a = false) := by
      cases hc : pcon p a
      · exact rfl
      · rw [((pcon_iff p a).1 hc).1] at hs; cases hs
    have Hs := Lib.hid hs
    clear hs
    go_enter Try.func93, Try.ntmps93
    go_wp2_with fail
    refine (rpsane_any p _).mono ?_
    rintro e w1 ⟨rfl, hw1⟩
    have zw1 := hw1.size
    have bw1 := below_of (w := w) (by go_grown) hw1
    try simp at zw1
    rw [Hs.out]
    obtain ⟨pa, pb, pc, pg, pd, pe, pf, ph, pz⟩ := cells4 (b := w.heap.size) hw1 (by go_size) (by go_simp <;> rfl) (by go_simp <;> rfl) (by go_simp <;> rfl) (by go_simp <;> rfl) (by go_simp <;> rfl) (by go_simp <;> rfl) (by go_simp <;> rfl) (by go_simp <;> rfl)
    obtain ⟨qa, qb, qc, qd, qe, qf, qz⟩ := cells3 (b := w.heap.size + 1) hw1 (by go_size) (by go_simp <;> rfl) (by go_simp <;> rfl) (by go_simp <;> rfl) (by go_simp <;> rfl) (by go_simp <;> rfl) (by go_simp <;> rfl)
    clear hw1
    go_wp2
    go_ret
    exact ⟨ret_bool hr.out.symm, bw1⟩
  · by_cases hv : a.v6 = p.a.v6
    · have hv' : (a.v6 == p.a.v6) = true := by simp [hv]
      have hy := Lib.hid (pcon_bits p a hs hv)
      have hn := Lib.hid (pcon_bit p a)
      obtain ⟨b0, b1⟩ := psane_bd hs
      have hw := wid_bd p.a.v6
      have Hs := Lib.hid hs
      clear hs hv
      go_enter Try.func93, Try.ntmps93
      go_wp2_with fail
      refine (rpsane_any p _).mono ?_
      rintro e w1 ⟨rfl, hw1⟩
      have zw1 := hw1.size
      have bw1 := below_of (w := w) (by go_grown) hw1
      try simp at zw1
      rw [Hs.out]
      obtain ⟨pa, pb, pc, pg, pd, pe, pf, ph, pz⟩ := cells4 (b := w.heap.size) hw1 (by go_size) (by go_simp <;> rfl) (by go_simp <;> rfl) (by go_simp <;> rfl) (by go_simp <;> rfl) (by go_simp <;> rfl) (by go_simp <;> rfl) (by go_simp <;> rfl) (by go_simp <;> rfl)
      obtain ⟨qa, qb, qc, qd, qe, qf, qz⟩ := cells3 (b := w.heap.size + 1) hw1 (by go_size) (by go_simp <;> rfl) (by go_simp <;> rfl) (by go_simp <;> rfl) (by go_simp <;> rfl) (by go_simp <;> rfl) (by go_simp <;> rfl)
      clear hw1
      go_wp2_with fail
      go_loopw [5] (fun v wr => ∃ i : Int, v = .int .i64 i ∧ 0 ≤ i ∧ i ≤ p.n ∧ Hid (∀ j : Nat, (j : Int) < i → bitv a (j : Int) = bitv p.a (j : Int)) ∧ PBox wr w.heap.size p ∧ Box wr (w.heap.size + 1) a ∧ Below w.heap.size w wr) (fun v _ => (p.n - intOf v).toNat)
      case atStart =>
        exact ⟨0, rfl, Int.le_refl _, b0, fun j h3 => absurd h3 (by omega), ⟨pa, pb, pc, pg, pd, pe, pf, ph, pz⟩, ⟨qa, qb, qc, qd, qe, qf, qz⟩, bw1⟩
      case round =>
        clear pa pb pc pd pe pf pg ph pz qa qb qc qd qe qf qz bw1 zw1
        obtain ⟨i, rfl, h2, h3, hall, ⟨pa, pb, pc, pg, pd, pe, pf, ph, pz⟩, ⟨qa, qb, qc, qd, qe, qf, qz⟩, hB⟩ := hrel
        by_cases hlt : i < p.n
        · have tl' : decide (i < p.n) = true := by simp [hlt]
          by_cases hb : bitv a i = bitv p.a i
          · have hb' : (bitv a i == bitv p.a i) = true := by simp [hb]
            have Hb := Lib.hid hb
            clear hb
            go_wp2_with fail
            obtain ⟨W, rfl⟩ : ∃ W, W = wr := ⟨_, rfl⟩
            have hz := hB.size
            have Lpa := fun x : Later W.heap.size W => (x.cell pz).trans pa
            have Lpb := fun x : Later W.heap.size W => (x.cell pz).trans pb
            have Lpc := fun x : Later W.heap.size W => (x.cell pz).trans pc
            have Lpg := fun x : Later W.heap.size W => (x.cell pz).trans pg
            have Lqa := fun x : Later W.heap.size W => (x.cell qz).trans qa
            have Lqb := fun x : Later W.heap.size W => (x.cell qz).trans qb
            have Lqc := fun x : Later W.heap.size W => (x.cell qz).trans qc
            refine region_later W.heap.size (by kernel_rfl) (by kernel_rfl) ?_
            repeat (go_big_quiet_step (first | (go_at_call 127; exact later_of (Nat.le_refl _) (refBit_any _ _ _))))
            refine wpQuiet_nil ?_
            intro x
            have hx : Below w.heap.size w x.at := hB.trans (x.below.mono hz)
            clear Lpa Lpb Lpc Lpg Lqa Lqb Lqc
            obtain ⟨p'a, p'b, p'c, p'g, p'd, p'e, p'f, p'h, p'z⟩ := cells4 x.below pz pa pb pc pg pd pe pf ph
            clear pa pb pc pd pe pf pg ph pz
            obtain ⟨q'a, q'b, q'c, q'd, q'e, q'f, q'z⟩ := cells3 x.below qz qa qb qc qd qe qf
            clear qa qb qc qd qe qf qz
            generalize x.at = w3 at *
            clear x hB hz W
            go_wp2_with fail
            refine ⟨⟨i + 1, rfl, by omega, by omega, fun j h6 => ?_, ⟨p'a, p'b, p'c, p'g, p'd, p'e, p'f, p'h, p'z⟩, ⟨q'a, q'b, q'c, q'd, q'e, q'f, q'z⟩, hx⟩, by simp [intOf]; omega⟩
            by_cases e : (j : Int) = i
            · rw [e]; exact Hb.out
            · exact hall.out j (by omega)
          · have hb' : (bitv a i == bitv p.a i) = false := by simp [hb]
            have hr : Hid (pcon p a = false) := by
              cases hp : pcon p a
              · exact rfl
              · obtain ⟨k, rfl⟩ := Int.eq_ofNat_of_zero_le h2
                exact absurd (hn.out hp k hlt) hb
            clear hb
            go_wp2_with fail
            obtain ⟨W, rfl⟩ : ∃ W, W = wr := ⟨_, rfl⟩
            have hz := hB.size
            have Lpa := fun x : Later W.heap.size W => (x.cell pz).trans pa
            have Lpb := fun x : Later W.heap.size W => (x.cell pz).trans pb
            have Lpc := fun x : Later W.heap.size W => (x.cell pz).trans pc
            have Lpg := fun x : Later W.heap.size W => (x.cell pz).trans pg
            have Lqa := fun x : Later W.heap.size W => (x.cell qz).trans qa
            have Lqb := fun x : Later W.heap.size W => (x.cell qz).trans qb
            have Lqc := fun x : Later W.heap.size W => (x.cell qz).trans qc
            refine region_later W.heap.size (by kernel_rfl) (by kernel_rfl) ?_
            repeat (go_big_quiet_step (first | (go_at_call 127; exact later_of (Nat.le_refl _) (refBit_any _ _ _))))
            refine wpQuiet_nil ?_
            intro x
            have hx : Below w.heap.size w x.at := hB.trans (x.below.mono hz)
            clear Lpa Lpb Lpc Lpg Lqa Lqb Lqc
            clear pa pb pc pd pe pf pg ph pz qa qb qc qd qe qf qz
            generalize x.at = w3 at *
            clear x hB hz W
            go_wp2
            go_ret
            exact ⟨ret_bool hr.out.symm, hx⟩
        · have tl' : decide (i < p.n) = false := by simp [hlt]
          have hr : Hid (pcon p a = true) := hy.out fun j h5 => hall.out j (by omega)
          go_wp2
          go_ret
          exact ⟨ret_bool hr.out.symm, hB⟩
    · have hv' : (a.v6 == p.a.v6) = false := by simp [hv]
      have hr : Hid (pcon p a = false) := by
        cases hc : pcon p a
        · exact rfl
        · exact absurd ((pcon_iff p a).1 hc).2.1 hv
      have Hs := Lib.hid hs
      clear hs hv
      go_enter Try.func93, Try.ntmps93
      go_wp2_with fail
      refine (rpsane_any p _).mono ?_
      rintro e w1 ⟨rfl, hw1⟩
      have zw1 := hw1.size
      have bw1 := below_of (w := w) (by go_grown) hw1
      try simp at zw1
      rw [Hs.out]
      obtain ⟨pa, pb, pc, pg, pd, pe, pf, ph, pz⟩ := cells4 (b := w.heap.size) hw1 (by go_size) (by go_simp <;> rfl) (by go_simp <;> rfl) (by go_simp <;> rfl) (by go_simp <;> rfl) (by go_simp <;> rfl) (by go_simp <;> rfl) (by go_simp <;> rfl) (by go_simp <;> rfl)
      obtain ⟨qa, qb, qc, qd, qe, qf, qz⟩ := cells3 (b := w.heap.size + 1) hw1 (by go_size) (by go_simp <;> rfl) (by go_simp <;> rfl) (by go_simp <;> rfl) (by go_simp <;> rfl) (by go_simp <;> rfl) (by go_simp <;> rfl)
      clear hw1
      go_wp2
      go_ret
      exact ⟨ret_bool hr.out.symm, bw1⟩

end Go.Proofs.Ythdnpilkkegniaa
