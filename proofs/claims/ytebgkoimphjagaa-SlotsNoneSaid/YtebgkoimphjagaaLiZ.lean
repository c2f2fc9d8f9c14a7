/-
  SlotsNone returns true, and leaves all old memory as it was. No condition.
-/
import Derived.Test.YtebgkoimphjagaaSg
namespace Go.Proofs.Ytebgkoimphjagaa
open Go.RowKit
set_option maxRecDepth 100000

set_option maxHeartbeats 400000 in
theorem nlnext_any (w : World) : Calls Try.prog 23 #[.pointer none] w fun e w' => e = .returned (.tuple #[.int .i64 0, .bool false]) ∧ w = w' := by
  go_enter Try.func23, Try.ntmps23
  go_wp2
  go_ret2
  exact ⟨rfl, rfl⟩
set_option maxHeartbeats 400000 in
theorem nltake_any (x : Int) (w : World) : Calls Try.prog 11 #[.pointer none, .int .i64 x] w fun e w' => e = .returned (.tuple #[.int .i64 0, .bool false]) ∧ w = w' := by
  go_enter Try.func11, Try.ntmps11
  go_wp2_with fail
  refine (nlnext_any w).mono ?_
  rintro e w1 ⟨rfl, rfl⟩
  go_wp2
  go_ret2
  exact ⟨rfl, rfl⟩
set_option maxHeartbeats 400000 in
theorem nlhas_any (i : Int) (w : World) : Calls Try.prog 25 #[.pointer none, .int .i64 i] w fun e w' => e = .returned (.bool false) ∧ w = w' := by
  go_enter Try.func25, Try.ntmps25
  go_wp2
  go_ret
  exact ⟨rfl, rfl⟩
set_option maxHeartbeats 400000 in
theorem nlat_any (i : Int) (w : World) : Calls Try.prog 18 #[.pointer none, .int .i64 i] w fun e w' => e = .returned (.tuple #[.int .i64 0, .bool false]) ∧ w = w' := by
  go_enter Try.func18, Try.ntmps18
  go_wp2_with fail
  refine (nlhas_any i w).mono ?_
  rintro e w1 ⟨rfl, rfl⟩
  go_wp2
  go_ret2
  exact ⟨rfl, rfl⟩
set_option maxHeartbeats 400000 in
theorem nlgive_any (i : Int) (w : World) : Calls Try.prog 13 #[.pointer none, .int .i64 i] w fun e w' => e = .returned (.bool false) ∧ w = w' := by
  go_enter Try.func13, Try.ntmps13
  go_wp2_with fail
  refine (nlhas_any i w).mono ?_
  rintro e w1 ⟨rfl, rfl⟩
  go_wp2
  go_ret
  exact ⟨rfl, rfl⟩
set_option maxHeartbeats 400000 in
theorem nlswap_any (i x : Int) (w : World) : Calls Try.prog 15 #[.pointer none, .int .i64 i, .int .i64 x] w fun e w' => e = .returned (.bool false) ∧ w = w' := by
  go_enter Try.func15, Try.ntmps15
  go_wp2_with fail
  refine (nlhas_any i w).mono ?_
  rintro e w1 ⟨rfl, rfl⟩
  go_wp2
  go_ret
  exact ⟨rfl, rfl⟩
set_option maxHeartbeats 400000 in
theorem nlused_any (w : World) : Calls Try.prog 19 #[.pointer none] w fun e w' => e = .returned (.slice none 0 0) ∧ w = w' := by
  go_enter Try.func19, Try.ntmps19
  go_wp2
  go_ret
  exact ⟨rfl, rfl⟩
set_option maxHeartbeats 400000 in
theorem nllen_any (w : World) : Calls Try.prog 20 #[.pointer none] w fun e w' => e = .returned (.int .i64 0) ∧ w = w' := by
  go_enter Try.func20, Try.ntmps20
  go_wp2
  go_ret
  exact ⟨rfl, rfl⟩
set_option maxHeartbeats 400000 in
theorem nlcap_any (w : World) : Calls Try.prog 21 #[.pointer none] w fun e w' => e = .returned (.int .i64 0) ∧ w = w' := by
  go_enter Try.func21, Try.ntmps21
  go_wp2
  go_ret
  exact ⟨rfl, rfl⟩
/-- No places at all. -/
def zeS : Sl := ⟨0, [], []⟩
theorem ze_ok : zeS.Ok := Sl.new_ok 0
theorem ze_has (i : Int) : zeS.has i = false := by
  unfold Sl.has zeS Sl.atN
  simp [plz]
theorem ze_at (i : Int) : zeS.at i = 0 := by unfold Sl.at; rw [ze_has]; simp
/-- Two pointers in a row. -/
def NonR (w0 : World) (t q : Nat) (wr : World) : Prop := WX (fun b => b = q) w0 t zeS wr ∧ wr.heap[q]? = some (.cells #[.pointer none, .pointer (some ⟨t, 0, none⟩)] 24 (0, 0))

theorem NonR.keep {w0 wr w1 : World} {t q : Nat} (h : NonR w0 t q wr) (hb : Below wr.heap.size wr w1) : NonR w0 t q w1 := ⟨h.1.keep hb, (hb.block q (lt_of_block h.2)).trans h.2⟩
theorem zetake_any {w0 wr : World} {t q : Nat} (h : NonR w0 t q wr) (x : Int) : Calls Try.prog 11 #[.pointer (some ⟨t, 0, none⟩), .int .i64 x] wr fun e w' => e = .returned (.tuple #[.int .i64 0, .bool false]) ∧ NonR w0 t q w' :=
  (wx_take h.1 x).mono fun _ _ ⟨he, g1, g2⟩ => ⟨he, g1, (g2 q rfl).trans h.2⟩
theorem zegive_any {w0 wr : World} {t q : Nat} (h : NonR w0 t q wr) (i : Int) : Calls Try.prog 13 #[.pointer (some ⟨t, 0, none⟩), .int .i64 i] wr fun e w' => e = .returned (.bool false) ∧ NonR w0 t q w' := by
  have c := wx_give h.1 i
  rw [ze_has, give_no (ze_has i)] at c
  exact c.mono fun _ _ ⟨he, g1, g2⟩ => ⟨he, g1, (g2 q rfl).trans h.2⟩
theorem zeswap_any {w0 wr : World} {t q : Nat} (h : NonR w0 t q wr) (i x : Int) : Calls Try.prog 15 #[.pointer (some ⟨t, 0, none⟩), .int .i64 i, .int .i64 x] wr fun e w' => e = .returned (.bool false) ∧ NonR w0 t q w' := by
  have c := wx_swap h.1 i x
  rw [ze_has, swap_no (ze_has i)] at c
  exact c.mono fun _ _ ⟨he, g1, g2⟩ => ⟨he, g1, (g2 q rfl).trans h.2⟩
theorem zeat_any {w0 wr : World} {t q : Nat} (h : NonR w0 t q wr) (i : Int) : Calls Try.prog 18 #[.pointer (some ⟨t, 0, none⟩), .int .i64 i] wr fun e w' => e = .returned (.tuple #[.int .i64 0, .bool false]) ∧ NonR w0 t q w' := by
  have c := w9_at h.1.w9 i
  rw [ze_has, ze_at] at c
  exact c.mono fun _ _ ⟨he, g1⟩ => ⟨he, g1 ▸ h⟩

set_option maxHeartbeats 2000000 in
theorem none_law (i x : Int) (w : World) : Calls Try.prog 4 #[.int .i64 i, .int .i64 x] w fun e w' => e = .returned (.bool true) ∧ Below w.heap.size w w' := by
  go_enter Try.func4, Try.ntmps4
  go_wp2_with fail
  refine (awake9_any w).mono ?_
  rintro e w1 ⟨rfl, b1⟩
  have z1 := b1.size
  go_wp2_with fail
  go_loopw [9] (fun n wr => ∃ k : Nat, k ≤ 2 ∧ n = .int .i64 k ∧ NonR w1 w1.heap.size (w1.heap.size + 1) wr) (fun n _ => 2 - (intOf n).toNat)
  case atStart =>
    refine ⟨0, by omega, rfl, ⟨ze_ok, foot w1.heap.size (.slice none 0 0) (.slice none 0 0), ⟨_, _, rfl, ?_, World.ownsRow_nil _ _ _ _, World.ownsRow_nil _ _ _ _⟩, ?_, ?_, by go_grown⟩, hp_new (by simp)⟩
    · exact hp_old (by simp) (hp_new rfl)
    · rintro b (rfl | hb | hb)
      · exact ⟨Nat.le_refl _, by omega⟩
      · simp [Value.ownBlock] at hb
      · simp [Value.ownBlock] at hb
    · intro b e
      subst e
      simp
  case round =>
    obtain ⟨k, hk, rfl, h2⟩ := hrel
    have H2 := Lib.hid h2
    obtain ⟨-, hq⟩ := h2
    have p0 : wr.cell? ⟨w1.heap.size + 1, 0, none⟩ = some (.pointer none) := by rw [cell_row hq]; rfl
    have p1 : wr.cell? ⟨w1.heap.size + 1, 1, none⟩ = some (.pointer (some ⟨w1.heap.size, 0, none⟩)) := by rw [cell_row hq]; rfl
    have hB := b1.trans (H2.out.1.below.mono z1)
    clear hq
    obtain rfl | rfl | rfl : k = 0 ∨ k = 1 ∨ k = 2 := by omega
    · clear p1
      go_wp2_with (first | (refine (nltake_any x _).mono ?_; rintro e w9 ⟨rfl, rfl⟩) | (refine (nlat_any i _).mono ?_; rintro e w9 ⟨rfl, rfl⟩) | (refine (nlgive_any i _).mono ?_; rintro e w9 ⟨rfl, rfl⟩) | (refine (nlswap_any i x _).mono ?_; rintro e w9 ⟨rfl, rfl⟩) | (refine (nlused_any _).mono ?_; rintro e w9 ⟨rfl, rfl⟩) | (refine (nllen_any _).mono ?_; rintro e w9 ⟨rfl, rfl⟩) | (refine (nlcap_any _).mono ?_; rintro e w9 ⟨rfl, rfl⟩))
      go_roundw
      case rel => exact ⟨1, by omega, by go_num, H2.out⟩
      case measure => simp [intOf]
    · clear p0 hB
      go_wp2_with fail
      refine (zetake_any H2.out x).mono ?_
      rintro e w3 ⟨rfl, h3⟩
      have p3 : w3.cell? ⟨w1.heap.size + 1, 1, none⟩ = some (.pointer (some ⟨w1.heap.size, 0, none⟩)) := by rw [cell_row h3.2]; rfl
      have H3 := Lib.hid h3
      clear h3
      go_wp2_with fail
      refine (zeat_any H3.out i).mono ?_
      rintro e w4 ⟨rfl, h4⟩
      have p4 : w4.cell? ⟨w1.heap.size + 1, 1, none⟩ = some (.pointer (some ⟨w1.heap.size, 0, none⟩)) := by rw [cell_row h4.2]; rfl
      have H4 := Lib.hid h4
      clear h4
      go_wp2_with fail
      refine (zegive_any H4.out i).mono ?_
      rintro e w5 ⟨rfl, h5⟩
      have p5 : w5.cell? ⟨w1.heap.size + 1, 1, none⟩ = some (.pointer (some ⟨w1.heap.size, 0, none⟩)) := by rw [cell_row h5.2]; rfl
      have H5 := Lib.hid h5
      clear h5
      go_wp2_with fail
      refine (zeswap_any H5.out i x).mono ?_
      rintro e w6 ⟨rfl, h6⟩
      have p6 : w6.cell? ⟨w1.heap.size + 1, 1, none⟩ = some (.pointer (some ⟨w1.heap.size, 0, none⟩)) := by rw [cell_row h6.2]; rfl
      have H6 := Lib.hid h6
      clear h6
      go_wp2_with fail
      refine (w9_used H6.out.1.w9).mono ?_
      rintro e w7 ⟨A7, c7, rfl, -, b7⟩
      have h7 := H6.out.keep b7
      have p7 : w7.cell? ⟨w1.heap.size + 1, 1, none⟩ = some (.pointer (some ⟨w1.heap.size, 0, none⟩)) := by rw [cell_row h7.2]; rfl
      have H7 := Lib.hid h7
      clear h7
      clear b7
      have e7 : zeS.used.length = 0 := rfl
      go_wp2_with fail
      refine (w9_len H7.out.1.w9).mono ?_
      rintro e w8 ⟨rfl, b8⟩
      have h8 := H7.out.keep b8
      have p8 : w8.cell? ⟨w1.heap.size + 1, 1, none⟩ = some (.pointer (some ⟨w1.heap.size, 0, none⟩)) := by rw [cell_row h8.2]; rfl
      have H8 := Lib.hid h8
      clear h8
      clear b8
      have e8 : (zeS.len == 0) = true := rfl
      have e88 : (zeS.len != 0) = false := rfl
      go_wp2_with fail
      refine (w9_cap H8.out.1.w9).mono ?_
      rintro e w9 ⟨rfl, b9⟩
      have h9 := H8.out.keep b9
      have p9 : w9.cell? ⟨w1.heap.size + 1, 1, none⟩ = some (.pointer (some ⟨w1.heap.size, 0, none⟩)) := by rw [cell_row h9.2]; rfl
      have H9 := Lib.hid h9
      clear h9
      clear b9
      have e9 : zeS.most = 0 := rfl
      go_wp2
      go_roundw
      case rel => exact ⟨2, by omega, by go_num, H9.out⟩
      case measure => simp [intOf]
    · go_wp2
      go_ret
      exact ⟨rfl, hB⟩

end Go.Proofs.Ytebgkoimphjagaa
