/-
  What a client of package slots sees: places that it made itself, call by call; awake of layer 9's statements. Condition: the places lie at the pointer's block, in blocks from a bound on.
-/
import Derived.Test.YtebgkoimphjagaaSd
import Derived.Test.YtebgkoimphjagaaSe
namespace Go.Proofs.Ytebgkoimphjagaa
open Go.RowKit
set_option maxRecDepth 100000

/-- Places that were made since the world w0; nothing of w0 was changed. -/
def W9 (w0 : World) (t : Nat) (s : Sl) (wr : World) : Prop := s.Ok ∧ ∃ S, SlS wr t S s ∧ (∀ b, S b → w0.heap.size ≤ b) ∧ Below w0.heap.size w0 wr
section
variable {w0 wr : World} {t : Nat} {s : Sl}
theorem W9.keep (h : W9 w0 t s wr) {w1 : World} (hb : Below wr.heap.size wr w1) : W9 w0 t s w1 := by
  obtain ⟨hk, S, h1, h2, h3⟩ := h
  exact ⟨hk, S, h1.keep hb, h2, h3.trans (hb.mono h3.size)⟩
theorem W9.below (h : W9 w0 t s wr) : Below w0.heap.size w0 wr := by
  obtain ⟨-, -, -, -, h3⟩ := h
  exact h3
theorem W9.post (h : W9 w0 t s wr) {S : Nat → Prop} (hN : ∀ b, S b → w0.heap.size ≤ b) {s' : Sl} {S' : Nat → Prop} {w1 : World} (hk : s'.Ok) (g1 : SlS w1 t S' s') (g2 : Frm S wr w1) (g3 : Sub S S' wr.heap.size) : W9 w0 t s' w1 ∧ ∀ b, S' b → w0.heap.size ≤ b := by
  have hz := h.below.size
  have hn : ∀ b, S' b → w0.heap.size ≤ b := fun b hb => by
    rcases g3 b hb with e | e
    · exact hN b e
    · omega
  exact ⟨⟨hk, S', g1, hn, h.below.trans (g2.below hN hz)⟩, hn⟩
theorem w9_new (m : Int) (w : World) : Calls Try.prog 9 #[.int .i64 m] w fun e w' => ∃ t, e = .returned (.pointer (some ⟨t, 0, none⟩)) ∧ W9 w t (Sl.new m) w' :=
  (slnew_any m w).mono fun _ _ ⟨t, S, he, h1, h2, h3⟩ => ⟨t, he, Sl.new_ok m, S, h1, h3, h2⟩
theorem w9_take (h : W9 w0 t s wr) (x : Int) : Calls Try.prog 11 #[.pointer (some ⟨t, 0, none⟩), .int .i64 x] wr fun e w' => e = .returned (.tuple #[.int .i64 s.tookI, .bool s.took]) ∧ W9 w0 t (s.take x) w' := by
  obtain ⟨hk, S, h1, h2, h3⟩ := id h
  exact (sltake_any wr t S s h1 hk x).mono fun _ _ ⟨he, S', g1, g2, g3⟩ => ⟨he, (h.post h2 (sltake_ok hk x) g1 g2 g3).1⟩
theorem w9_give (h : W9 w0 t s wr) (i : Int) : Calls Try.prog 13 #[.pointer (some ⟨t, 0, none⟩), .int .i64 i] wr fun e w' => e = .returned (.bool (s.has i)) ∧ W9 w0 t (s.give i) w' := by
  obtain ⟨hk, S, h1, h2, h3⟩ := id h
  exact (slgive_any wr t S s h1 hk i).mono fun _ _ ⟨he, S', g1, g2, g3⟩ => ⟨he, (h.post h2 (give_ok hk i) g1 g2 g3).1⟩
theorem w9_swap (h : W9 w0 t s wr) (i x : Int) : Calls Try.prog 15 #[.pointer (some ⟨t, 0, none⟩), .int .i64 i, .int .i64 x] wr fun e w' => e = .returned (.bool (s.has i)) ∧ W9 w0 t (s.swap i x) w' := by
  obtain ⟨hk, S, h1, h2, h3⟩ := id h
  exact (slswap_any wr t S s h1 i x).mono fun _ _ ⟨he, S', g1, g2, g3⟩ => ⟨he, (h.post h2 (swap_ok hk i x) g1 g2 g3).1⟩
theorem w9_at (h : W9 w0 t s wr) (i : Int) : Calls Try.prog 18 #[.pointer (some ⟨t, 0, none⟩), .int .i64 i] wr fun e w' => e = .returned (.tuple #[.int .i64 (s.at i), .bool (s.has i)]) ∧ wr = w' := by
  obtain ⟨hk, S, h1, h2, h3⟩ := id h
  exact slat_any wr t S s h1 i
theorem w9_cap (h : W9 w0 t s wr) : Calls Try.prog 21 #[.pointer (some ⟨t, 0, none⟩)] wr fun e w' => e = .returned (.int .i64 s.most) ∧ Below wr.heap.size wr w' := by
  obtain ⟨hk, S, h1, h2, h3⟩ := id h
  exact (slcap_any wr t S s h1).mono fun _ _ ⟨he, hw⟩ => ⟨he, hw ▸ Below.refl _ _⟩
theorem w9_len (h : W9 w0 t s wr) : Calls Try.prog 20 #[.pointer (some ⟨t, 0, none⟩)] wr fun e w' => e = .returned (.int .i64 s.len) ∧ Below wr.heap.size wr w' := by
  obtain ⟨hk, S, h1, h2, h3⟩ := id h
  exact (sllen_any wr t S s h1 hk).mono fun _ _ ⟨he, n, hw⟩ => ⟨he, hw ▸ below_drewN (Below.refl _ _) n⟩
theorem w9_used (h : W9 w0 t s wr) : Calls Try.prog 19 #[.pointer (some ⟨t, 0, none⟩)] wr (NatsPost wr s.used) := by
  obtain ⟨hk, S, h1, h2, h3⟩ := id h
  exact slused_any wr t S s h1 hk
end
/-- Places of which so many were taken. -/
def stK : Nat → Sl
  | 0 => Sl.new 3
  | k + 1 => (stK k).take (10 + k)
def aw1 : Sl := ((stK 3).give 1).give 0

set_option maxHeartbeats 2000000 in
theorem awake9_any (w : World) : Calls Try.prog 8 #[] w fun e w' => e = .returned (.bool true) ∧ Below w.heap.size w w' := by
  have E1 : Hid (aw1.tookI = 0 ∧ aw1.took = true ∧ (aw1.take 7).tookI = 1 ∧ (aw1.take 7).took = true ∧ ((aw1.take 7).take 8).at 0 = 7 ∧ ((aw1.take 7).take 8).has 0 = true ∧ ((aw1.take 7).take 8).len = 3 ∧ (((aw1.take 7).take 8).most : Int) = 3) := Lib.hid (by decide +kernel)
  go_enter Try.func8, Try.ntmps8
  go_wp2_with fail
  refine (w9_new 3 w).mono ?_
  rintro e w1 ⟨t, rfl, h1⟩
  have H1 := Lib.hid h1
  clear h1
  go_wp2_with fail
  go_loopw [2] (fun n wr => ∃ k : Nat, k ≤ 3 ∧ n = .int .i64 k ∧ W9 w t (stK k) wr) (fun n _ => 3 - (intOf n).toNat)
  case atStart => exact ⟨0, by omega, rfl, H1.out⟩
  case round =>
    obtain ⟨k, hk, rfl, h2⟩ := hrel
    have H2 := Lib.hid h2
    clear h2 H1
    by_cases hlt : k < 3
    · have t1 : decide ((k : Int) < 3) = true := by simp; omega
      go_wp2_with fail
      refine (w9_take H2.out _).mono ?_
      rintro e w2 ⟨rfl, h3⟩
      have H3 := Lib.hid h3
      clear h3
      go_wp2
      go_roundw
      case rel => exact ⟨k + 1, by omega, by go_num, H3.out⟩
      case measure => simp [intOf]; omega
    · have hk3 : k = 3 := by omega
      subst hk3
      go_wp2_with fail
      refine (w9_give H2.out 1).mono ?_
      rintro e w2 ⟨rfl, h3⟩
      have H3 := Lib.hid h3
      clear h3 H2
      go_wp2_with fail
      refine (w9_give H3.out 0).mono ?_
      rintro e w3 ⟨rfl, h4⟩
      have H4 := Lib.hid h4
      clear h4 H3
      go_wp2_with fail
      rw [show ((stK 3).give 1).give 0 = aw1 from rfl] at H4
      refine (w9_take H4.out 7).mono ?_
      rw [E1.out.1, E1.out.2.1]
      rintro e w4 ⟨rfl, h5⟩
      have H5 := Lib.hid h5
      clear h5 H4
      go_wp2_with fail
      refine (w9_take H5.out 8).mono ?_
      rw [E1.out.2.2.1, E1.out.2.2.2.1]
      rintro e w5 ⟨rfl, h6⟩
      have H6 := Lib.hid h6
      clear h6 H5
      go_wp2_with fail
      refine (w9_at H6.out 0).mono ?_
      rw [E1.out.2.2.2.2.1, E1.out.2.2.2.2.2.1]
      rintro e w6 ⟨rfl, rfl⟩
      have hB := H6.out.below
      have hz := hB.size
      go_wp2_with fail
      refine (w9_len H6.out).mono ?_
      rw [E1.out.2.2.2.2.2.2.1]
      rintro e w7 ⟨rfl, b7⟩
      have H7 := Lib.hid (H6.out.keep b7)
      go_wp2_with fail
      refine (w9_cap H7.out).mono ?_
      rw [E1.out.2.2.2.2.2.2.2]
      rintro e w8 ⟨rfl, b8⟩
      have H8 := Lib.hid (H7.out.keep b8)
      go_wp2
      go_ret
      exact ⟨rfl, H8.out.below⟩

end Go.Proofs.Ytebgkoimphjagaa
