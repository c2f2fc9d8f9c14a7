/-
  What Sane, Bit and Digits of the document's answer for layer 1 return. No condition.
-/
import Derived.Test.YtfebhfghjdedhaaDoorRefC
import Derived.Laws.OwnMore
namespace Go.Proofs.YtfebhfghjdedhaaDoor
open Go.RowKit

/-- A block's first n cells are these numbers, and may be written. -/
def Row (w : World) (g n : Nat) (f : Nat → Int) : Prop :=
  g < w.heap.size ∧ (∀ j, j < n → w.cell? ⟨g, j, none⟩ = some (.int .i64 (f j))) ∧ ∀ j, w.frozen? ⟨g, j, none⟩ = false
theorem Row.below {w w' : World} {B g n : Nat} {f : Nat → Int} (h : Row w g n f) (hb : Below B w w') (hg : g < B) : Row w' g n f :=
  ⟨Nat.lt_of_lt_of_le h.1 hb.size, fun j hj => (hb.cell (p := ⟨g, j, none⟩) hg).trans (h.2.1 j hj), fun j => (hb.frozen (p := ⟨g, j, none⟩) hg).trans (h.2.2 j)⟩

theorem refBit_eq (a : Ad) (i : Int) (h0 : 0 ≤ i) (h1 : i < wid a.v6) : rawv a i = bitv a i := by
  obtain ⟨k, rfl⟩ := Int.eq_ofNat_of_zero_le h0
  rw [wid_wd] at h1
  rw [rawv_D a k (by omega), bitv_D a k (by omega)]
theorem bitv_out (a : Ad) (i : Int) (h : ¬ (0 ≤ i ∧ i < wid a.v6)) : bitv a i = 0 := by
  unfold bitv
  have : inW a.v6 i = false := by
    unfold inW
    rw [← Bool.decide_and, decide_eq_false_iff_not]
    exact h
  rw [this]
  rfl

theorem own_below {w w' : World} {B base : Nat} {e : TypeId} {size n : Nat} {v : Value} {xs : List Value} (h : w.ownsRow base e size v n xs) (hb : Below B w w') (hB : w.heap.size ≤ B) : w'.ownsRow base e size v n xs := by
  refine ⟨h.1, ?_⟩
  rcases h.2 with h' | ⟨g, cap, cur, h1, h2, h3, h4⟩
  · exact .inl h'
  · refine .inr ⟨g, cap, cur, h1, h2, ?_, h4⟩
    rw [hb.block g (Nat.lt_of_lt_of_le (Array.getElem?_eq_some_iff.1 h3).1 hB)]
    exact h3

set_option maxHeartbeats 1000000 in
theorem refBit_any (a : Ad) (i : Int) (w : World) :
    Calls Tryd.prog 46 #[.agg #[.int .u64 (u a.hi), .int .u64 (u a.lo), .bool a.v6], .int .i64 i] w fun e w' => e = .returned (.int .i64 (bitv a i)) ∧ Below w.heap.size w w' := by
  have hw := wid_bd a.v6
  by_cases hi : i < 0
  · have t1 : decide (i < 0) = true := by simp [hi]
    have hb := Lib.hid (bitv_out a i (by omega))
    go_enter Tryd.func46, Tryd.ntmps46
    go_wp2
    go_ret
    exact ⟨ret_int hb.out.symm, by go_grown⟩
  · have t1 : decide (i < 0) = false := by simp [hi]
    by_cases hi2 : wid a.v6 ≤ i
    · have t2 : decide (wid a.v6 ≤ i) = true := by simp [hi2]
      have hb := Lib.hid (bitv_out a i (by omega))
      go_enter Tryd.func46, Tryd.ntmps46
      go_wp2_with fail
      refine (refWidth_any a.v6 _).mono ?_
      rintro e w2 ⟨rfl, rfl⟩
      go_wp2
      go_ret
      exact ⟨ret_int hb.out.symm, by go_grown⟩
    · have t2 : decide (wid a.v6 ≤ i) = false := by simp [hi2]
      have hb := Lib.hid (refBit_eq a i (by omega) (by omega))
      go_enter Tryd.func46, Tryd.ntmps46
      go_wp2_with fail
      refine (refWidth_any a.v6 _).mono ?_
      rintro e w2 ⟨rfl, rfl⟩
      go_wp2_with fail
      refine (raw_any a i (by omega) (by omega) _).mono ?_
      rintro e w3 ⟨rfl, h3⟩
      have b3 := below_of (w := w) (by go_grown) h3
      clear h3
      go_wp2
      go_ret
      exact ⟨ret_int hb.out, b3⟩

def rdig (a : Ad) (m : Nat) : List Value := (List.range m).map fun j : Nat => .int .i64 (rawv a (j : Int))
theorem rdig_succ (a : Ad) (m : Nat) : rdig a (m + 1) = rdig a m ++ [.int .i64 (rawv a m)] := by
  unfold rdig
  rw [List.range_succ, List.map_append]
  rfl
theorem rdig_at (a : Ad) (m j : Nat) (h : j < m) : (rdig a m)[j]? = some (.int .i64 (rawv a j)) := by
  unfold rdig
  simp [h]
theorem rawv_bd (a : Ad) (k : Nat) (h : k < 128) : 0 ≤ rawv a k ∧ rawv a k ≤ 1 := by
  rw [rawv_P a k h]
  split <;> omega

def DigPost (w : World) (a : Ad) (e : Ending) (w' : World) : Prop := ∃ g c : Nat, e = .returned (.slice (some ⟨g, 0, none⟩) (wd a.v6) c) ∧ w.heap.size ≤ g ∧ Row w' g (wd a.v6) (fun j => rawv a j) ∧ Below w.heap.size w w'
set_option maxHeartbeats 2000000 in
theorem refDigits_any (a : Ad) (w : World) :
    Calls Tryd.prog 56 #[.agg #[.int .u64 (u a.hi), .int .u64 (u a.lo), .bool a.v6]] w (DigPost w a) := by
  obtain ⟨i0, hi0, hz0, hz1, hz2⟩ := info_parts info_int
  have hw := wd_lb a.v6
  have Hwid := Lib.hid (wid_wd a.v6)
  go_enter Tryd.func56, Tryd.ntmps56
  go_wp2_with fail
  generalize hW1 : World.alloc _ _ = W1
  have hz1w : w.heap.size < W1.heap.size := by subst hW1; go_size
  have hB1 : Below w.heap.size w W1 := by subst hW1; go_grown
  obtain ⟨pa, pb, pc, pd, pe, pf, pz⟩ : Box W1 w.heap.size a := by
    subst hW1
    refine ⟨?_, ?_, ?_, ?_, ?_, ?_, ?_⟩ <;> first | (go_simp; done) | (go_simp <;> rfl) | go_size
  clear hW1
  go_loopw [3, 4] (fun l i wr => ∃ k : Nat, k ≤ wd a.v6 ∧ i = .int .i64 k ∧ wr.ownsRow W1.heap.size 3 1 l k (rdig a k) ∧ Below W1.heap.size W1 wr) (fun _ i _ => wd a.v6 - (intOf i).toNat)
  case atStart => exact ⟨0, by omega, rfl, ⟨by simp [rdig], .inl ⟨rfl, rfl⟩⟩, Below.refl _ _⟩
  case round =>
    obtain ⟨k, hk, rfl, hown, hB⟩ := hrel
    obtain ⟨qa, qb, qc, qd, qe, qf, qz⟩ := cells3 hB pz pa pb pc pd pe pf
    have Hown := Lib.hid hown
    have Hge := Lib.hid (own_ge hown)
    clear hown
    have hbase := hB.size
    by_cases hlt : k < wd a.v6
    · have hlt' : decide ((k : Int) < wid a.v6) = true := by rw [Hwid.out]; simp; omega
      go_wp2_with fail
      refine (refWidth_any a.v6 _).mono ?_
      rintro e w2 ⟨rfl, rfl⟩
      go_wp2_with fail
      refine (raw_any a k (by omega) (by omega) _).mono ?_
      rintro e w3 ⟨rfl, h3⟩
      have H3 := Lib.hid (own_below Hown.out h3 (Nat.le_refl _))
      have b3 := hB.trans (h3.mono hbase)
      have hz3 := b3.size
      clear h3 Hown
      go_wp2_with ((at_builtin
                    refine wpList_append_own _ rfl (.tmp 12) (.tmp 16) _ rfl W1.heap.size 3 i0 _ 1 8 Tryd.underlying52 hi0 hz0 hz1 hz2 rfl (by omega) _ k (rdig a k) rfl (H3.out.alloc _) ⟨w3.heap.size, 0, none⟩ 1 1 [.int .i64 (rawv a k)] rfl rfl (World.news_of_block (cs := #[.int .i64 (rawv a k)]) (t := 3) (fr := (0, 0)) (heap_alloc_new w3 _)) (by simp [Value.oneCell']) (by simp only [maxLen]; omega) (by omega) (by simp; omega) ?_
                    intro v1 w4 hown1 hg1 hat1
                    have H1 := Lib.hid hown1
                    have G1 := Lib.hid hg1
                    clear hown1 hg1 hat1))
      have bX : Below W1.heap.size W1 w4 := (b3.alloc hz3 _).grown G1.out (by simp; omega) Hge.out
      refine ⟨⟨k + 1, by omega, by go_num, ?_, bX⟩, ?_⟩
      · have e := H1.out
        rw [← rdig_succ] at e
        exact e
      · simp [intOf]; omega
    · obtain rfl : k = wd a.v6 := by omega
      have hlt' : decide ((wd a.v6 : Int) < wid a.v6) = false := by rw [Hwid.out]; simp
      obtain ⟨g, cap, hv, hgb, hgl⟩ := Hown.out.form (by omega)
      subst hv
      have hrow : Row wr g (wd a.v6) (fun j => rawv a j) := ⟨hgl, fun j hj => (Hown.out.cellAt j (by omega)).trans (rdig_at a _ j hj), fun j => Hown.out.frozenAt j⟩
      have HR := Lib.hid hrow
      clear hrow Hown Hge
      go_wp2_with fail
      refine (refWidth_any a.v6 _).mono ?_
      rintro e w2 ⟨rfl, rfl⟩
      go_wp2
      refine bodyPost_ret (v := .slice (some ⟨g, 0, none⟩) (wd a.v6) cap) (by simp [*, results, Tryd.results56, go_sem] <;> rfl) rfl ⟨g, cap, rfl, by omega, HR.out, ?_⟩
      exact hB1.trans (hB.mono (Nat.le_of_lt hz1w))

theorem sane_raw (a : Ad) : saneB a = true ↔ (a.v6 = true ∨ ∀ j : Nat, 32 ≤ j → j < 128 → rawv a j = 0) := by
  rw [sane_iff]
  have hw := wd_lb a.v6
  constructor
  · intro h
    cases hv : a.v6
    · refine .inr fun j h1 h2 => ?_
      rw [rawv_P a j h2, ← h, P_norm, D_low a _ (by rw [hv]; show 127 - j < 96; omega)]
      rfl
    · exact .inl rfl
  · rintro h
    have hP : ∀ j, j < 128 → P (norm a) j = P a j := by
      intro j hj
      rw [P_norm, D_P]
      rcases h with h | h
      · rw [h]; simp [lb]
      · by_cases hl : lb a.v6 ≤ j
        · simp [hl]
        · have := h (127 - j) (by omega) (by omega)
          rw [rawv_P a _ (by omega), show 127 - (127 - j) = j from by omega] at this
          cases hp : P a j
          · simp
          · rw [hp] at this; simp at this
    have e1 : (norm a).hi = a.hi := by
      apply BitVec.eq_of_getLsbD_eq
      intro m hm
      have := hP (m + 64) (by omega)
      unfold P at this
      rw [if_neg (by omega), if_neg (by omega), Nat.add_sub_cancel] at this
      exact this
    have e2 : (norm a).lo = a.lo := by
      apply BitVec.eq_of_getLsbD_eq
      intro m hm
      have := hP m (by omega)
      unfold P at this
      rw [if_pos hm, if_pos hm] at this
      exact this
    show Ad.mk (norm a).hi (norm a).lo a.v6 = _
    rw [e1, e2]

set_option maxHeartbeats 2000000 in
theorem refSane_any (a : Ad) (w : World) :
    Calls Tryd.prog 44 #[.agg #[.int .u64 (u a.hi), .int .u64 (u a.lo), .bool a.v6]] w fun e w' => e = .returned (.bool (saneB a)) ∧ Below w.heap.size w w' := by
  by_cases hv : a.v6 = false
  · have HS := Lib.hid (sane_raw a)
    have HV := Lib.hid hv
    have tn : (!a.v6) = true := by rw [hv]; rfl
    clear hv
    go_enter Tryd.func44, Tryd.ntmps44
    go_wp2_with fail
    go_loopw [3] (fun i wr => ∃ k : Nat, 32 ≤ k ∧ k ≤ 128 ∧ i = .int .i64 k ∧ Hid (∀ j : Nat, 32 ≤ j → j < k → rawv a j = 0) ∧ Box wr w.heap.size a ∧ Below w.heap.size w wr) (fun i _ => 128 - (intOf i).toNat)
    case atStart =>
      refine ⟨32, by omega, by omega, rfl, fun j h1 h2 => absurd h1 (by omega), ?_, ?_⟩
      · refine ⟨?_, ?_, ?_, ?_, ?_, ?_, ?_⟩ <;> first | (go_simp; done) | (go_simp <;> rfl) | go_size
      · go_grown
    case round =>
      obtain ⟨k, hk0, hk, rfl, hall, ⟨pa, pb, pc, pd, pe, pf, pz⟩, hB⟩ := hrel
      by_cases hlt : k < 128
      · have hlt' : decide ((k : Int) < 128) = true := by simp; omega
        have hlt2 : (k : Int) < 128 := by omega
        by_cases h0 : rawv a k = 0
        · have t0 : (rawv a k == 0) = true := by simp [h0]
          have t1 : (rawv a k != 0) = false := by simp [h0]
          have H0 := Lib.hid h0
          clear h0
          go_wp2_with fail
          refine (raw_any a k (by omega) (by omega) _).mono ?_
          rintro e w3 ⟨rfl, h3⟩
          have b3 := hB.trans (h3.mono hB.size)
          obtain ⟨qa, qb, qc, qd, qe, qf, qz⟩ := cells3 h3 pz pa pb pc pd pe pf
          clear h3
          go_wp2_with fail
          refine ⟨⟨k + 1, by omega, by omega, by go_num, ?_, ⟨qa, qb, qc, qd, qe, qf, qz⟩, b3⟩, by simp [intOf]; omega⟩
          intro j h1 h2
          by_cases e : j = k
          · rw [e]; exact H0.out
          · exact hall.out j h1 (by omega)
        · have t0 : (rawv a k == 0) = false := by simp [h0]
          have t1 : (rawv a k != 0) = true := by simp [h0]
          have hs : Hid (saneB a = false) := by
            refine Lib.hid ?_
            rw [← Bool.not_eq_true, HS.out]
            rintro (h | h)
            · rw [HV.out] at h; cases h
            · exact h0 (h k hk0 hlt)
          clear h0
          go_wp2_with fail
          refine (raw_any a k (by omega) (by omega) _).mono ?_
          rintro e w3 ⟨rfl, h3⟩
          have b3 := hB.trans (h3.mono hB.size)
          clear h3
          go_wp2
          go_ret
          exact ⟨ret_bool hs.out.symm, b3⟩
      · obtain rfl : k = 128 := by omega
        have hs : Hid (saneB a = true) := Lib.hid (HS.out.2 (.inr hall.out))
        go_wp2
        go_ret
        exact ⟨ret_bool hs.out.symm, hB⟩
  · have tn : (!a.v6) = false := by simpa using hv
    have hs := Lib.hid ((sane_raw a).2 (.inl (by simpa using hv)))
    clear hv
    go_enter Tryd.func44, Tryd.ntmps44
    go_wp2_with fail
    refine wp_loop_rounds 1 ?_
    rw [rounds_succ]
    go_wp2
    go_ret
    exact ⟨ret_bool hs.out.symm, by go_grown⟩

end Go.Proofs.YtfebhfghjdedhaaDoor
