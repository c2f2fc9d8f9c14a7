/-
  What From of the document's answer for layer 1 returns. No condition.
-/
import Derived.Test.YtfebhfghjdedhaaDoorRefB
import Derived.Test.YtfebhfghjdedhaaDoorFr
import Derived.Deep.AppendLies
namespace Go.Proofs.YtfebhfghjdedhaaDoor
open Go.RowKit
set_option maxRecDepth 100000

theorem addr_add (g o j : Nat) : (⟨g, o, none⟩ : Addr).add j = ⟨g, o + j, none⟩ := by
  unfold Addr.add
  by_cases h : j = 0
  · subst h; simp
  · simp [h]
/-- Digit j of bytes. -/
def dgt (bs : Nat → Int) (j : Nat) : Int := bs (j / 8) / 2 ^ (7 - j % 8) % 2
def digs (bs : Nat → Int) (m : Nat) : List Value := (List.range m).map fun j => .int .i64 (dgt bs j)
theorem digs_succ (bs : Nat → Int) (m : Nat) : digs bs (m + 1) = digs bs m ++ [.int .i64 (dgt bs m)] := by
  unfold digs
  rw [List.range_succ, List.map_append]
  rfl
theorem digs_at (bs : Nat → Int) (m j : Nat) (h : j < m) : (digs bs m)[j]? = some (.int .i64 (dgt bs j)) := by
  unfold digs
  simp [h]
theorem u8_and1 (n : Int) (h0 : 0 ≤ n) (h1 : n < 256) : bits .and .u8 n 1 = n % 2 := by
  rw [u8_and n 1 h0 h1 (by omega) (by omega)]
  have : (1 : Int).toNat = 1 := rfl
  rw [this, nat_mask1]
  omega
theorem dgt_bd (bs : Nat → Int) (j : Nat) : 0 ≤ dgt bs j ∧ dgt bs j ≤ 1 := by unfold dgt; omega

set_option maxHeartbeats 400000 in
theorem refFrom_bad (A : Option Addr) (n c : Nat) (h4 : n ≠ 4) (h16 : n ≠ 16) (w : World) :
    Calls Tryd.prog 39 #[.slice A n c] w fun e w' => e = .returned (.tuple #[.agg #[.int .u64 0, .int .u64 0, .bool false], .int .i64 4]) ∧ Below w.heap.size w w' := by
  have e1 : ((n : Int) != 16) = true := by rw [bne_iff_ne]; omega
  have e2 : ((n : Int) != 4) = true := by rw [bne_iff_ne]; omega
  go_enter Tryd.func39, Tryd.ntmps39
  go_wp2
  refine bodyPost_ret (v := .tuple #[.agg #[.int .u64 0, .int .u64 0, .bool false], .int .i64 4]) (by simp [*, results, Tryd.results39, go_sem] <;> rfl) rfl ⟨rfl, ?_⟩
  go_grown

set_option maxHeartbeats 2000000 in
theorem refFrom_four (gb off c : Nat) (bs : Nat → Int) (hbs : ∀ j, j < 4 → 0 ≤ bs j ∧ bs j < 256) (w : World) (hg : gb < w.heap.size) (hcell : ∀ j, j < 4 → w.cell? ⟨gb, off + j, none⟩ = some (.int .u8 (bs j))) :
    Calls Tryd.prog 39 #[.slice (some ⟨gb, off, none⟩) 4 c] w fun e w' => e = .returned (.tuple #[.agg #[.int .u64 (u (ofv (dgt bs) false).hi), .int .u64 (u (ofv (dgt bs) false).lo), .bool (ofv (dgt bs) false).v6], .int .i64 0]) ∧ Below w.heap.size w w' := by
  obtain ⟨i0, hi0, hz0, hz1, hz2⟩ := info_parts info_int
  have Hbs := Lib.hid hbs
  have Hcell := Lib.hid hcell
  clear hbs hcell
  go_enter Tryd.func39, Tryd.ntmps39
  go_wp2_with fail
  generalize hW1 : World.alloc _ _ = W1
  have hz1w : w.heap.size < W1.heap.size := by subst hW1; go_size
  have hB1 : Below w.heap.size w W1 := by subst hW1; go_grown
  obtain ⟨pa, pb, pc, pd, pe, pf, pz⟩ : Box W1 w.heap.size ⟨0#64, 0#64, false⟩ := by
    subst hW1
    refine ⟨?_, ?_, ?_, ?_, ?_, ?_, ?_⟩ <;> first | (go_simp; done) | (go_simp <;> rfl) | go_size
  clear hW1
  go_loopw [4, 5] (fun l i wr => ∃ k : Nat, k ≤ 4 ∧ i = .int .i64 k ∧ wr.ownsRow W1.heap.size 3 1 l (8 * k) (digs bs (8 * k)) ∧ Below W1.heap.size W1 wr) (fun _ i _ => 4 - (intOf i).toNat)
  case atStart => exact ⟨0, by omega, rfl, ⟨by simp [digs], .inl ⟨rfl, rfl⟩⟩, Below.refl _ _⟩
  case round =>
    obtain ⟨k, hk, rfl, hown, hB⟩ := hrel
    by_cases hlt : k < 4
    · have hlt' : (k : Int) < 4 := by omega
      obtain ⟨hb0, hb1⟩ := Hbs.out k hlt
      obtain ⟨wo, rfl⟩ : ∃ wo : World, wo = wr := ⟨_, rfl⟩
      have Hown := Lib.hid hown
      clear hown
      go_wp2_with fail
      go_loopw [4, 6] (fun l i wr => ∃ t : Nat, t ≤ 8 ∧ i = .int .i64 (7 - (t : Int)) ∧ wr.ownsRow W1.heap.size 3 1 l (8 * k + t) (digs bs (8 * k + t)) ∧ Below W1.heap.size W1 wr) (fun _ i _ => (intOf i + 1).toNat)
      case atStart => exact ⟨0, by omega, rfl, Hown.out, hB⟩
      case round =>
        obtain ⟨t, ht, rfl, hown, hB2⟩ := hrel
        clear Hown hB
        have Hown := Lib.hid hown
        have Hge := Lib.hid (own_ge hown)
        clear hown
        by_cases hlt2 : t < 8
        · have hck : wr.cell? ⟨gb, off + k, none⟩ = some (.int .u8 (bs k)) := ((hB1.trans (hB2.mono (Nat.le_of_lt hz1w))).cell (p := ⟨gb, off + k, none⟩) hg).trans (Hcell.out k hlt)
          have hge : (0 : Int) ≤ 7 - (t : Int) := by omega
          have hd : bits .and .u8 (bs k / 2 ^ (7 - t)) 1 = dgt bs (8 * k + t) := by
            have q0 : 0 ≤ bs k / 2 ^ (7 - t) := Int.ediv_nonneg hb0 (Int.le_of_lt (Int.pow_pos (by decide)))
            have q1 : bs k / 2 ^ (7 - t) ≤ bs k := Int.ediv_le_self _ hb0
            rw [u8_and1 _ q0 (by omega)]
            unfold dgt
            rw [show (8 * k + t) / 8 = k from by omega, show (8 * k + t) % 8 = t from by omega]
          obtain ⟨d0, d1⟩ := dgt_bd bs (8 * k + t)
          have hbase := hB2.size
          go_wp2_with ((at_builtin
                        refine wpList_append_own _ rfl (.tmp 26) (.tmp 36) _ rfl W1.heap.size 3 i0 _ 1 8 Tryd.underlying52 hi0 hz0 hz1 hz2 rfl (by omega) _ (8 * k + t) (digs bs (8 * k + t)) rfl (Hown.out.alloc _) ⟨wr.heap.size, 0, none⟩ 1 1 [.int .i64 (dgt bs (8 * k + t))] rfl rfl (World.news_of_block (cs := #[.int .i64 (dgt bs (8 * k + t))]) (t := 3) (fr := (0, 0)) (heap_alloc_new wr _)) (by simp [Value.oneCell']) (by simp only [maxLen]; omega) (by omega) (by simp; omega) ?_
                        intro v1 w3 hown1 hg1 hat1
                        have H1 := Lib.hid hown1
                        have G1 := Lib.hid hg1
                        clear hown1 hg1 hat1))
          have bX : Below W1.heap.size W1 w3 := (hB2.alloc hbase _).grown G1.out (by simp; omega) Hge.out
          refine ⟨⟨t + 1, by omega, by go_num, ?_, bX⟩, ?_⟩
          · have e := H1.out
            rw [← digs_succ] at e
            exact e
          · simp [intOf]; omega
        · obtain rfl : t = 8 := by omega
          have hge : ¬ (0 : Int) ≤ 7 - ((8 : Nat) : Int) := by omega
          go_wp2_with fail
          refine ⟨⟨k + 1, by omega, by go_num, ?_, hB2⟩, by simp [intOf]; omega⟩
          have e := Hown.out
          rw [show 8 * k + 8 = 8 * (k + 1) from by omega] at e
          exact e
    · obtain rfl : k = 4 := by omega
      have hlt' : ¬ ((4 : Nat) : Int) < 4 := by omega
      obtain ⟨g, cap, hv, hgb, hgl⟩ := hown.form (by omega)
      have hcl := hown.cells (g := g) (by rw [hv]; rfl)
      subst hv
      have Hcl := Lib.hid hcl
      clear hcl hown
      have hbase := hB.size
      go_wp2_with fail
      refine (of_any false g cap (dgt bs) wr hgl ?_ (fun j _ => dgt_bd bs j)).mono ?_
      · intro j hj
        have e := Hcl.out j _ (digs_at bs _ j hj)
        rw [addr_add, Nat.zero_add] at e
        exact e
      rintro e w5 ⟨rfl, h5⟩
      have b5 : Below w.heap.size w w5 := (hB1.trans (hB.mono (Nat.le_of_lt hz1w))).trans (h5.mono (by omega))
      obtain ⟨qa, qb, qc, qd, qe, qf, qz⟩ := cells3 (hB.trans (h5.mono hbase) |>.mono (Nat.le_refl _)) pz pa pb pc pd pe pf
      clear h5 pa pb pc pd pe pf pz
      go_wp2
      refine bodyPost_ret (v := .tuple #[.agg #[.int .u64 (u (ofv (dgt bs) false).hi), .int .u64 (u (ofv (dgt bs) false).lo), .bool (ofv (dgt bs) false).v6], .int .i64 0]) (by simp [*, results, Tryd.results39, go_sem] <;> rfl) rfl ⟨rfl, ?_⟩
      go_grown

set_option maxHeartbeats 2000000 in
theorem refFrom_six (gb off c : Nat) (bs : Nat → Int) (hbs : ∀ j, j < 16 → 0 ≤ bs j ∧ bs j < 256) (w : World) (hg : gb < w.heap.size) (hcell : ∀ j, j < 16 → w.cell? ⟨gb, off + j, none⟩ = some (.int .u8 (bs j))) :
    Calls Tryd.prog 39 #[.slice (some ⟨gb, off, none⟩) 16 c] w fun e w' => e = .returned (.tuple #[.agg #[.int .u64 (u (ofv (dgt bs) true).hi), .int .u64 (u (ofv (dgt bs) true).lo), .bool (ofv (dgt bs) true).v6], .int .i64 0]) ∧ Below w.heap.size w w' := by
  obtain ⟨i0, hi0, hz0, hz1, hz2⟩ := info_parts info_int
  have Hbs := Lib.hid hbs
  have Hcell := Lib.hid hcell
  clear hbs hcell
  go_enter Tryd.func39, Tryd.ntmps39
  go_wp2_with fail
  generalize hW1 : World.alloc _ _ = W1
  have hz1w : w.heap.size < W1.heap.size := by subst hW1; go_size
  have hB1 : Below w.heap.size w W1 := by subst hW1; go_grown
  obtain ⟨pa, pb, pc, pd, pe, pf, pz⟩ : Box W1 w.heap.size ⟨0#64, 0#64, false⟩ := by
    subst hW1
    refine ⟨?_, ?_, ?_, ?_, ?_, ?_, ?_⟩ <;> first | (go_simp; done) | (go_simp <;> rfl) | go_size
  clear hW1
  go_loopw [4, 5] (fun l i wr => ∃ k : Nat, k ≤ 16 ∧ i = .int .i64 k ∧ wr.ownsRow W1.heap.size 3 1 l (8 * k) (digs bs (8 * k)) ∧ Below W1.heap.size W1 wr) (fun _ i _ => 16 - (intOf i).toNat)
  case atStart => exact ⟨0, by omega, rfl, ⟨by simp [digs], .inl ⟨rfl, rfl⟩⟩, Below.refl _ _⟩
  case round =>
    obtain ⟨k, hk, rfl, hown, hB⟩ := hrel
    by_cases hlt : k < 16
    · have hlt' : (k : Int) < 16 := by omega
      obtain ⟨hb0, hb1⟩ := Hbs.out k hlt
      obtain ⟨wo, rfl⟩ : ∃ wo : World, wo = wr := ⟨_, rfl⟩
      have Hown := Lib.hid hown
      clear hown
      go_wp2_with fail
      go_loopw [4, 6] (fun l i wr => ∃ t : Nat, t ≤ 8 ∧ i = .int .i64 (7 - (t : Int)) ∧ wr.ownsRow W1.heap.size 3 1 l (8 * k + t) (digs bs (8 * k + t)) ∧ Below W1.heap.size W1 wr) (fun _ i _ => (intOf i + 1).toNat)
      case atStart => exact ⟨0, by omega, rfl, Hown.out, hB⟩
      case round =>
        obtain ⟨t, ht, rfl, hown, hB2⟩ := hrel
        clear Hown hB
        have Hown := Lib.hid hown
        have Hge := Lib.hid (own_ge hown)
        clear hown
        by_cases hlt2 : t < 8
        · have hck : wr.cell? ⟨gb, off + k, none⟩ = some (.int .u8 (bs k)) := ((hB1.trans (hB2.mono (Nat.le_of_lt hz1w))).cell (p := ⟨gb, off + k, none⟩) hg).trans (Hcell.out k hlt)
          have hge : (0 : Int) ≤ 7 - (t : Int) := by omega
          have hd : bits .and .u8 (bs k / 2 ^ (7 - t)) 1 = dgt bs (8 * k + t) := by
            have q0 : 0 ≤ bs k / 2 ^ (7 - t) := Int.ediv_nonneg hb0 (Int.le_of_lt (Int.pow_pos (by decide)))
            have q1 : bs k / 2 ^ (7 - t) ≤ bs k := Int.ediv_le_self _ hb0
            rw [u8_and1 _ q0 (by omega)]
            unfold dgt
            rw [show (8 * k + t) / 8 = k from by omega, show (8 * k + t) % 8 = t from by omega]
          obtain ⟨d0, d1⟩ := dgt_bd bs (8 * k + t)
          have hbase := hB2.size
          go_wp2_with ((at_builtin
                        refine wpList_append_own _ rfl (.tmp 26) (.tmp 36) _ rfl W1.heap.size 3 i0 _ 1 8 Tryd.underlying52 hi0 hz0 hz1 hz2 rfl (by omega) _ (8 * k + t) (digs bs (8 * k + t)) rfl (Hown.out.alloc _) ⟨wr.heap.size, 0, none⟩ 1 1 [.int .i64 (dgt bs (8 * k + t))] rfl rfl (World.news_of_block (cs := #[.int .i64 (dgt bs (8 * k + t))]) (t := 3) (fr := (0, 0)) (heap_alloc_new wr _)) (by simp [Value.oneCell']) (by simp only [maxLen]; omega) (by omega) (by simp; omega) ?_
                        intro v1 w3 hown1 hg1 hat1
                        have H1 := Lib.hid hown1
                        have G1 := Lib.hid hg1
                        clear hown1 hg1 hat1))
          have bX : Below W1.heap.size W1 w3 := (hB2.alloc hbase _).grown G1.out (by simp; omega) Hge.out
          refine ⟨⟨t + 1, by omega, by go_num, ?_, bX⟩, ?_⟩
          · have e := H1.out
            rw [← digs_succ] at e
            exact e
          · simp [intOf]; omega
        · obtain rfl : t = 8 := by omega
          have hge : ¬ (0 : Int) ≤ 7 - ((8 : Nat) : Int) := by omega
          go_wp2_with fail
          refine ⟨⟨k + 1, by omega, by go_num, ?_, hB2⟩, by simp [intOf]; omega⟩
          have e := Hown.out
          rw [show 8 * k + 8 = 8 * (k + 1) from by omega] at e
          exact e
    · obtain rfl : k = 16 := by omega
      have hlt' : ¬ ((16 : Nat) : Int) < 16 := by omega
      obtain ⟨g, cap, hv, hgb, hgl⟩ := hown.form (by omega)
      have hcl := hown.cells (g := g) (by rw [hv]; rfl)
      subst hv
      have Hcl := Lib.hid hcl
      clear hcl hown
      have hbase := hB.size
      go_wp2_with fail
      refine (of_any true g cap (dgt bs) wr hgl ?_ (fun j _ => dgt_bd bs j)).mono ?_
      · intro j hj
        have e := Hcl.out j _ (digs_at bs _ j hj)
        rw [addr_add, Nat.zero_add] at e
        exact e
      rintro e w5 ⟨rfl, h5⟩
      have b5 : Below w.heap.size w w5 := (hB1.trans (hB.mono (Nat.le_of_lt hz1w))).trans (h5.mono (by omega))
      obtain ⟨qa, qb, qc, qd, qe, qf, qz⟩ := cells3 (hB.trans (h5.mono hbase) |>.mono (Nat.le_refl _)) pz pa pb pc pd pe pf
      clear h5 pa pb pc pd pe pf pz
      go_wp2
      refine bodyPost_ret (v := .tuple #[.agg #[.int .u64 (u (ofv (dgt bs) true).hi), .int .u64 (u (ofv (dgt bs) true).lo), .bool (ofv (dgt bs) true).v6], .int .i64 0]) (by simp [*, results, Tryd.results39, go_sem] <;> rfl) rfl ⟨rfl, ?_⟩
      go_grown

theorem oHi_bit (dl : Nat → Int) (n : Nat) (hd : ∀ j, j < n → 0 ≤ dl j ∧ dl j ≤ 1) (m : Nat) (hm : m < 64) : (oHi dl n).getLsbD m = (decide (63 - m < n) && decide (dl (63 - m) = 1)) := by
  induction n with
  | zero => simp [oHi]
  | succ n ih =>
    have ih' := ih fun j hj => hd j (by omega)
    unfold oHi
    by_cases h : n < 64
    · obtain ⟨b0, b1⟩ := hd n (by omega)
      rw [if_pos h, BitVec.getLsbD_or, ih', BitVec.getLsbD_shiftLeft, b8_bit _ b0 (by omega)]
      by_cases e : 63 - m = n
      · rw [e, show m - (63 - n) = 0 from by omega]
        have h1 : ¬ m < 63 - n := by omega
        have h2 : dl n = 0 ∨ dl n = 1 := by omega
        rcases h2 with h2 | h2 <;> simp [h1, h2, hm]
      · have h1 : (decide (m < 64) && !decide (m < 63 - n) && (dl n).toNat.testBit (m - (63 - n))) = false := by
          by_cases h5 : m < 63 - n
          · simp [h5]
          · have h6 : (dl n).toNat.testBit (m - (63 - n)) = false := by
              apply Nat.testBit_lt_two_pow
              exact Nat.lt_of_lt_of_le (show (dl n).toNat < 2 ^ 1 by omega) (Nat.pow_le_pow_right (by omega) (by omega))
            rw [h6]; simp
        rw [h1, Bool.or_false]
        have h7 : (63 - m < n) ↔ (63 - m < n + 1) := by omega
        simp only [h7]
    · rw [if_neg h, ih']
      have h1 : 63 - m < n := by omega
      have h2 : 63 - m < n + 1 := by omega
      simp only [h1, h2]
theorem oLo_bit (dl : Nat → Int) (n : Nat) (hn : n ≤ 128) (hd : ∀ j, j < n → 0 ≤ dl j ∧ dl j ≤ 1) (m : Nat) (hm : m < 64) : (oLo dl n).getLsbD m = (decide (127 - m < n) && decide (dl (127 - m) = 1)) := by
  induction n with
  | zero => simp [oLo]
  | succ n ih =>
    have ih' := ih (by omega) fun j hj => hd j (by omega)
    unfold oLo
    by_cases h : n < 64
    · rw [if_pos h, ih']
      have h1 : ¬ 127 - m < n := by omega
      have h2 : ¬ 127 - m < n + 1 := by omega
      simp only [h1, h2]
    · obtain ⟨b0, b1⟩ := hd n (by omega)
      rw [if_neg h, BitVec.getLsbD_or, ih', BitVec.getLsbD_shiftLeft, b8_bit _ b0 (by omega)]
      by_cases e : 127 - m = n
      · rw [e, show m - (127 - n) = 0 from by omega]
        have h1 : ¬ m < 127 - n := by omega
        have h2 : dl n = 0 ∨ dl n = 1 := by omega
        rcases h2 with h2 | h2 <;> simp [h1, h2, hm]
      · have h1 : (decide (m < 64) && !decide (m < 127 - n) && (dl n).toNat.testBit (m - (127 - n))) = false := by
          by_cases h5 : m < 127 - n
          · simp [h5]
          · have h6 : (dl n).toNat.testBit (m - (127 - n)) = false := by
              apply Nat.testBit_lt_two_pow
              exact Nat.lt_of_lt_of_le (show (dl n).toNat < 2 ^ 1 by omega) (Nat.pow_le_pow_right (by omega) (by omega))
            rw [h6]; simp
        rw [h1, Bool.or_false]
        have h7 : (127 - m < n) ↔ (127 - m < n + 1) := by omega
        simp only [h7]
/-- The digits of an address out of digits. -/
theorem P_of (dl : Nat → Int) (v : Bool) (hd : ∀ j, j < wd v → 0 ≤ dl j ∧ dl j ≤ 1) (j : Nat) (hj : j < 128) : P (ofv dl v) j = (decide (127 - j < wd v) && decide (dl (127 - j) = 1)) := by
  have hw := wd_lb v
  unfold P ofv
  by_cases h : j < 64
  · rw [if_pos h, oLo_bit dl _ (by omega) hd j h]
  · rw [if_neg h, oHi_bit dl _ hd _ (by omega), show 63 - (j - 64) = 127 - j from by omega]
theorem of_norm (dl : Nat → Int) (v : Bool) (hd : ∀ j, j < wd v → 0 ≤ dl j ∧ dl j ≤ 1) : norm (ofv dl v) = ofv dl v := by
  have hw := wd_lb v
  have hP : ∀ j, j < 128 → P (norm (ofv dl v)) j = P (ofv dl v) j := by
    intro j hj
    rw [P_norm, D_P, P_of dl v hd j hj]
    show (_ && decide (lb v ≤ j)) = _
    by_cases hl : lb v ≤ j
    · simp [hl]
    · have : ¬ 127 - j < wd v := by omega
      simp [this]
  have e1 : (norm (ofv dl v)).hi = (ofv dl v).hi := by
    apply BitVec.eq_of_getLsbD_eq
    intro m hm
    have := hP (m + 64) (by omega)
    unfold P at this
    rw [if_neg (by omega), if_neg (by omega), Nat.add_sub_cancel] at this
    exact this
  have e2 : (norm (ofv dl v)).lo = (ofv dl v).lo := by
    apply BitVec.eq_of_getLsbD_eq
    intro m hm
    have := hP m (by omega)
    unfold P at this
    rw [if_pos hm, if_pos hm] at this
    exact this
  show Ad.mk (norm (ofv dl v)).hi (norm (ofv dl v)).lo v = _
  rw [e1, e2]
  rfl
theorem dgt_bit (bs : Nat → Int) (j : Nat) (h0 : 0 ≤ bs (j / 8)) : decide (dgt bs j = 1) = (bs (j / 8)).toNat.testBit (7 - j % 8) := by
  obtain ⟨n, hn⟩ := Int.eq_ofNat_of_zero_le h0
  unfold dgt
  rw [hn, Int.toNat_natCast, Nat.testBit_eq_decide_div_mod_eq]
  have e : ((n : Int) / 2 ^ (7 - j % 8) % 2) = ((n / 2 ^ (7 - j % 8) % 2 : Nat) : Int) := by simp
  rw [e]
  congr 1
  simp only [eq_iff_iff]
  omega
/-- The two ways from bytes to an address are one. -/
theorem of_from (bs : Nat → Int) (v : Bool) (hb : ∀ j, j < nb v → 0 ≤ bs j ∧ bs j < 256) : ofv (dgt bs) v = fromv bs v := by
  have hw := wd_lb v
  have hnb : wd v = 8 * nb v := by cases v <;> rfl
  have hd := fun j (_ : j < wd v) => dgt_bd bs j
  have e : norm (ofv (dgt bs) v) = norm (fromv bs v) := by
    refine norm_ext rfl fun j => ?_
    by_cases hj : j < 128
    · rw [D_from bs v hb j hj, D_P, P_of _ v hd j hj]
      show (_ && decide (lb v ≤ j)) = _
      by_cases hl : lb v ≤ j
      · have h1 : 127 - j < wd v := by omega
        have h2 : 15 - j / 8 = (127 - j) / 8 := by omega
        have h3 : j % 8 = 7 - (127 - j) % 8 := by omega
        rw [dgt_bit bs _ (hb _ (by omega)).1, ← h2, ← h3]
        simp [hl, h1]
      · simp [hl]
    · rw [D_ge _ j (by omega), D_ge _ j (by omega)]
  rw [of_norm _ v hd] at e
  have f : norm (fromv bs v) = fromv bs v := norm_norm _
  rw [e, f]
theorem refFrom_any (v : Bool) (g off c : Nat) (bs : Nat → Int) (hbs : ∀ j, j < nb v → 0 ≤ bs j ∧ bs j < 256) (w : World) (hg : g < w.heap.size) (hcell : ∀ j, j < nb v → w.cell? ⟨g, off + j, none⟩ = some (.int .u8 (bs j))) :
    Calls Tryd.prog 39 #[.slice (some ⟨g, off, none⟩) (nb v) c] w fun e w' => e = .returned (.tuple #[.agg #[.int .u64 (u (fromv bs v).hi), .int .u64 (u (fromv bs v).lo), .bool (fromv bs v).v6], .int .i64 0]) ∧ Below w.heap.size w w' := by
  rw [← of_from bs v hbs]
  cases v
  · exact refFrom_four g off c bs hbs w hg hcell
  · exact refFrom_six g off c bs hbs w hg hcell

end Go.Proofs.YtfebhfghjdedhaaDoor
