/-
  RecencyNone returns true, and leaves all old memory as it was. No condition.
-/
import Derived.Test.YtkkjdpmkiedbiaaJg
namespace Go.Proofs.Ytkkjdpmkiedbiaa
open Go.RowKit
set_option maxRecDepth 100000

set_option maxHeartbeats 400000 in
theorem nrend_any (w : World) : Calls Try.prog 24 #[.pointer none] w fun e w' => e = .returned (.int .i64 (-1)) ∧ w = w' := by
  go_enter Try.func24, Try.ntmps24
  go_wp2
  go_ret
  exact ⟨rfl, rfl⟩
set_option maxHeartbeats 400000 in
theorem nrmay_any (i : Int) (w : World) : Calls Try.prog 25 #[.pointer none, .int .i64 i] w fun e w' => e = .returned (.bool false) ∧ w = w' := by
  cases h0 : decide (0 ≤ i)
  · go_enter Try.func25, Try.ntmps25
    go_wp2
    go_ret
    exact ⟨rfl, rfl⟩
  · have h1 : decide (i < -1) = false := by have := of_decide_eq_true h0; simp; omega
    go_enter Try.func25, Try.ntmps25
    go_wp2_with fail
    refine (nrend_any w).mono ?_
    rintro e w1 ⟨rfl, rfl⟩
    go_wp2
    go_ret
    exact ⟨rfl, rfl⟩
set_option maxHeartbeats 400000 in
theorem nrhas_any (i : Int) (w : World) : Calls Try.prog 19 #[.pointer none, .int .i64 i] w fun e w' => e = .returned (.bool false) ∧ w = w' := by
  go_enter Try.func19, Try.ntmps19
  go_wp2_with fail
  refine (nrmay_any i w).mono ?_
  rintro e w1 ⟨rfl, rfl⟩
  go_wp2
  go_ret
  exact ⟨rfl, rfl⟩
set_option maxHeartbeats 400000 in
theorem nrtouch_any (i : Int) (w : World) : Calls Try.prog 21 #[.pointer none, .int .i64 i] w fun e w' => e = .returned (.bool false) ∧ w = w' := by
  go_enter Try.func21, Try.ntmps21
  go_wp2_with fail
  refine (nrmay_any i w).mono ?_
  rintro e w1 ⟨rfl, rfl⟩
  go_wp2
  go_ret
  exact ⟨rfl, rfl⟩
set_option maxHeartbeats 400000 in
theorem nrdrop_any (i : Int) (w : World) : Calls Try.prog 22 #[.pointer none, .int .i64 i] w fun e w' => e = .returned (.bool false) ∧ w = w' := by
  go_enter Try.func22, Try.ntmps22
  go_wp2_with fail
  refine (nrhas_any i w).mono ?_
  rintro e w1 ⟨rfl, rfl⟩
  go_wp2
  go_ret
  exact ⟨rfl, rfl⟩
set_option maxHeartbeats 400000 in
theorem nrlen_any (w : World) : Calls Try.prog 18 #[.pointer none] w fun e w' => e = .returned (.int .i64 0) ∧ w = w' := by
  go_enter Try.func18, Try.ntmps18
  go_wp2
  go_ret
  exact ⟨rfl, rfl⟩
set_option maxHeartbeats 400000 in
theorem nrlast_any (w : World) : Calls Try.prog 14 #[.pointer none] w fun e w' => e = .returned (.tuple #[.int .i64 0, .bool false]) ∧ w = w' := by
  go_enter Try.func14, Try.ntmps14
  go_wp2_with fail
  refine (nrlen_any w).mono ?_
  rintro e w1 ⟨rfl, rfl⟩
  go_wp2
  go_ret2
  exact ⟨rfl, rfl⟩
set_option maxHeartbeats 400000 in
theorem nrorder_any (w : World) : Calls Try.prog 17 #[.pointer none] w fun e w' => e = .returned (.slice none 0 0) ∧ w = w' := by
  go_enter Try.func17, Try.ntmps17
  go_wp2_with fail
  refine (nrlen_any w).mono ?_
  rintro e w1 ⟨rfl, rfl⟩
  go_wp2
  go_ret
  exact ⟨rfl, rfl⟩
/-- A list of which no number may be. -/
def Non (w : World) (t : Nat) : Prop := ∃ S n, RcS w t S ⟨n, []⟩ ∧ n ≤ 1
theorem Non.keep {w w' : World} {t : Nat} (h : Non w t) (hb : Below w.heap.size w w') : Non w' t := by
  obtain ⟨S, n, h1, h2⟩ := h
  exact ⟨S, n, h1.keep hb, h2⟩
theorem non_may {n : Nat} (h : n ≤ 1) (i : Int) : (⟨n, []⟩ : Rc).may i = false := by
  unfold Rc.may
  simp
  omega
theorem non_has {n : Nat} (i : Int) : (⟨n, []⟩ : Rc).has i = false := by
  unfold Rc.has
  simp
set_option maxHeartbeats 400000 in
theorem nntouch_any (i : Int) (w : World) (t : Nat) (h : Non w t) : Calls Try.prog 21 #[.pointer (some ⟨t, 0, none⟩), .int .i64 i] w fun e w' => e = .returned (.bool false) ∧ w = w' := by
  obtain ⟨S, n, h1, h2⟩ := h
  have hc := rcmay_any w t S _ h1 i
  rw [non_may h2] at hc
  have HC := Lib.hid hc
  clear hc h1
  go_enter Try.func21, Try.ntmps21
  go_wp2_with fail
  refine HC.out.mono ?_
  rintro e w1 ⟨rfl, rfl⟩
  go_wp2
  go_ret
  exact ⟨rfl, rfl⟩
theorem nnhas_any (i : Int) (w : World) (t : Nat) (h : Non w t) : Calls Try.prog 19 #[.pointer (some ⟨t, 0, none⟩), .int .i64 i] w fun e w' => e = .returned (.bool false) ∧ w = w' := by
  obtain ⟨S, n, h1, h2⟩ := h
  have hc := rchas_any w t S _ h1 i
  rw [non_has] at hc
  exact hc
set_option maxHeartbeats 400000 in
theorem nndrop_any (i : Int) (w : World) (t : Nat) (h : Non w t) : Calls Try.prog 22 #[.pointer (some ⟨t, 0, none⟩), .int .i64 i] w fun e w' => e = .returned (.bool false) ∧ w = w' := by
  have HC := Lib.hid (nnhas_any i w t h)
  clear h
  go_enter Try.func22, Try.ntmps22
  go_wp2_with fail
  refine HC.out.mono ?_
  rintro e w1 ⟨rfl, rfl⟩
  go_wp2
  go_ret
  exact ⟨rfl, rfl⟩
theorem nnlen_any (w : World) (t : Nat) (h : Non w t) : Calls Try.prog 18 #[.pointer (some ⟨t, 0, none⟩)] w fun e w' => e = .returned (.int .i64 0) ∧ w = w' := by
  obtain ⟨S, n, h1, h2⟩ := h
  exact rclen_any w t S _ h1
theorem nnlast_any (w : World) (t : Nat) (h : Non w t) : Calls Try.prog 14 #[.pointer (some ⟨t, 0, none⟩)] w fun e w' => e = .returned (.tuple #[.int .i64 0, .bool false]) ∧ Below w.heap.size w w' := by
  obtain ⟨S, n, h1, h2⟩ := h
  exact rclast_any w t S _ h1
theorem nnorder_any (w : World) (t : Nat) (h : Non w t) : Calls Try.prog 17 #[.pointer (some ⟨t, 0, none⟩)] w fun e w' => ∃ A c, e = .returned (.slice A 0 c) ∧ Below w.heap.size w w' := by
  obtain ⟨S, n, h1, h2⟩ := h
  exact (rcorder_any w t S _ h1).mono fun _ _ ⟨A, c, he, _, hb⟩ => ⟨A, c, he, hb⟩
/-- Three pointers in a row. -/
def NonT (w : World) (t0 t2 q : Nat) (wr : World) : Prop := Non wr t0 ∧ Non wr t2 ∧ wr.heap[q]? = some (.cells #[.pointer none, .pointer (some ⟨t0, 0, none⟩), .pointer (some ⟨t2, 0, none⟩)] 24 (0, 0)) ∧ Below w.heap.size w wr
theorem NonT.keep {w wr w1 : World} {t0 t2 q : Nat} (h : NonT w t0 t2 q wr) (hb : Below wr.heap.size wr w1) : NonT w t0 t2 q w1 := ⟨h.1.keep hb, h.2.1.keep hb, (hb.block q (lt_of_block h.2.2.1)).trans h.2.2.1, h.2.2.2.trans (hb.mono h.2.2.2.size)⟩

set_option maxHeartbeats 2000000 in
theorem none_law (i : Int) (w : World) : Calls Try.prog 4 #[.int .i64 i] w fun e w' => e = .returned (.bool true) ∧ Below w.heap.size w w' := by
  go_enter Try.func4, Try.ntmps4
  go_wp2_with fail
  refine (awake10_any w).mono ?_
  rintro e w1 ⟨rfl, b1⟩
  have z1 := b1.size
  go_wp2_with fail
  have hb2 : Below w1.heap.size w1 (w1.alloc (.cells #[.slice none 0 0, .int .i64 0] 46)) := by go_grown
  have N0 : Hid (Non (w1.alloc (.cells #[.slice none 0 0, .int .i64 0] 46)) w1.heap.size) := Lib.hid ⟨_, 0, ⟨.slice none 0 0, selfR, rfl, zero_ok _, hp_new rfl, World.ownsRow_nil _ _ _ _⟩, by omega⟩
  refine (wy_new 0 _).mono ?_
  rintro e w3 ⟨t, rfl, h3⟩
  have b3 := h3.below
  have N2 : Hid (Non w3 t) := Lib.hid (by obtain ⟨S, h1, -⟩ := h3; exact ⟨S, 1, h1, by omega⟩)
  have N0' := Lib.hid (N0.out.keep b3)
  have HB3 := Lib.hid (b1.trans ((hb2.trans (b3.mono hb2.size)).mono z1))
  clear h3 b3 hb2 N0
  go_wp2_with fail
  go_loopw [7] (fun n wr => ∃ k : Nat, k ≤ 3 ∧ n = .int .i64 k ∧ NonT w w1.heap.size t w3.heap.size wr) (fun n _ => 3 - (intOf n).toNat)
  case atStart => exact ⟨0, by omega, rfl, N0'.out.keep (by go_grown), N2.out.keep (by go_grown), hp_new rfl, HB3.out.alloc HB3.out.size _⟩
  case round =>
    obtain ⟨k, hk, rfl, h2⟩ := hrel
    have H2 := Lib.hid h2
    clear h2 N0' N2 HB3
    obtain rfl | rfl | rfl | rfl : k = 0 ∨ k = 1 ∨ k = 2 ∨ k = 3 := by omega
    · have p0 : wr.cell? ⟨w3.heap.size, 0, none⟩ = some (.pointer none) := by rw [cell_row H2.out.2.2.1]; rfl
      go_wp2_with (first | (refine (nrlast_any _).mono ?_; rintro e w9 ⟨rfl, rfl⟩) | (refine (nrtouch_any i _).mono ?_; rintro e w9 ⟨rfl, rfl⟩) | (refine (nrdrop_any i _).mono ?_; rintro e w9 ⟨rfl, rfl⟩) | (refine (nrhas_any i _).mono ?_; rintro e w9 ⟨rfl, rfl⟩) | (refine (nrorder_any _).mono ?_; rintro e w9 ⟨rfl, rfl⟩) | (refine (nrlen_any _).mono ?_; rintro e w9 ⟨rfl, rfl⟩))
      go_roundw
      case rel => exact ⟨1, by omega, by go_num, H2.out⟩
      case measure => simp [intOf]
    · have p1 : wr.cell? ⟨w3.heap.size, 1, none⟩ = some (.pointer (some ⟨w1.heap.size, 0, none⟩)) := by rw [cell_row H2.out.2.2.1]; rfl
      go_wp2_with fail
      refine (nnlast_any _ _ H2.out.1).mono ?_
      rintro e w4 ⟨rfl, b4⟩
      have H4 := Lib.hid (H2.out.keep b4)
      clear b4 p1
      have p1 : w4.cell? ⟨w3.heap.size, 1, none⟩ = some (.pointer (some ⟨w1.heap.size, 0, none⟩)) := by rw [cell_row H4.out.2.2.1]; rfl
      go_wp2_with fail
      refine (nntouch_any i _ _ H4.out.1).mono ?_
      rintro e w5 ⟨rfl, rfl⟩
      go_wp2_with fail
      refine (nndrop_any i _ _ H4.out.1).mono ?_
      rintro e w5 ⟨rfl, rfl⟩
      go_wp2_with fail
      refine (nnhas_any i _ _ H4.out.1).mono ?_
      rintro e w5 ⟨rfl, rfl⟩
      go_wp2_with fail
      refine (nnorder_any _ _ H4.out.1).mono ?_
      rintro e w5 ⟨A5, c5, rfl, b5⟩
      have H5 := Lib.hid (H4.out.keep b5)
      clear b5 p1
      have p1 : w5.cell? ⟨w3.heap.size, 1, none⟩ = some (.pointer (some ⟨w1.heap.size, 0, none⟩)) := by rw [cell_row H5.out.2.2.1]; rfl
      go_wp2_with fail
      refine (nnlen_any _ _ H5.out.1).mono ?_
      rintro e w6 ⟨rfl, rfl⟩
      go_wp2
      go_roundw
      case rel => exact ⟨2, by omega, by go_num, H5.out⟩
      case measure => simp [intOf]
    · have p1 : wr.cell? ⟨w3.heap.size, 2, none⟩ = some (.pointer (some ⟨t, 0, none⟩)) := by rw [cell_row H2.out.2.2.1]; rfl
      go_wp2_with fail
      refine (nnlast_any _ _ H2.out.2.1).mono ?_
      rintro e w4 ⟨rfl, b4⟩
      have H4 := Lib.hid (H2.out.keep b4)
      clear b4 p1
      have p1 : w4.cell? ⟨w3.heap.size, 2, none⟩ = some (.pointer (some ⟨t, 0, none⟩)) := by rw [cell_row H4.out.2.2.1]; rfl
      go_wp2_with fail
      refine (nntouch_any i _ _ H4.out.2.1).mono ?_
      rintro e w5 ⟨rfl, rfl⟩
      go_wp2_with fail
      refine (nndrop_any i _ _ H4.out.2.1).mono ?_
      rintro e w5 ⟨rfl, rfl⟩
      go_wp2_with fail
      refine (nnhas_any i _ _ H4.out.2.1).mono ?_
      rintro e w5 ⟨rfl, rfl⟩
      go_wp2_with fail
      refine (nnorder_any _ _ H4.out.2.1).mono ?_
      rintro e w5 ⟨A5, c5, rfl, b5⟩
      have H5 := Lib.hid (H4.out.keep b5)
      clear b5 p1
      have p1 : w5.cell? ⟨w3.heap.size, 2, none⟩ = some (.pointer (some ⟨t, 0, none⟩)) := by rw [cell_row H5.out.2.2.1]; rfl
      go_wp2_with fail
      refine (nnlen_any _ _ H5.out.2.1).mono ?_
      rintro e w6 ⟨rfl, rfl⟩
      go_wp2
      go_roundw
      case rel => exact ⟨3, by omega, by go_num, H5.out⟩
      case measure => simp [intOf]
    · go_wp2
      go_ret
      exact ⟨rfl, H2.out.2.2.2⟩

end Go.Proofs.Ytkkjdpmkiedbiaa
