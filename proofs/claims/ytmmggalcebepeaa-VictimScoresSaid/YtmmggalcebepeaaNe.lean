/-
  What rotate of Go's package slices leaves. Condition: the row is the caller's own.
-/
import Derived.Test.YtmmggalcebepeaaNd
namespace Go.Proofs.Ytmmggalcebepeaa
open Go.RowKit
set_option maxRecDepth 100000

/-- What stands from m on comes ahead of what stands from a on. -/
def rotD (D : Nat → Nat) (a m b : Nat) : Nat → Nat := fun k => if a ≤ k ∧ k < a + (b - m) then D (k - a + m) else if a + (b - m) ≤ k ∧ k < b then D (k - (b - m)) else D k
theorem rot_gt (D : Nat → Nat) (m i j : Nat) (h : j < i) (hi : i ≤ m) : rotD (swR D (m - i) m j) (m - (i - j)) m (m + j) = rotD D (m - i) m (m + j) := by
  funext k
  unfold rotD swR
  repeat' split
  all_goals first | omega | rfl | (congr 1; omega)
theorem rot_lt (D : Nat → Nat) (m i j : Nat) (h : i < j) (hi : i ≤ m) : rotD (swR D (m - i) (m + j - i) i) (m - i) m (m + (j - i)) = rotD D (m - i) m (m + j) := by
  funext k
  unfold rotD swR
  repeat' split
  all_goals first | omega | rfl | (congr 1; omega)
theorem rot_eq (D : Nat → Nat) (m i : Nat) (hi : i ≤ m) : swR D (m - i) m i = rotD D (m - i) m (m + i) := by
  funext k
  unfold rotD swR
  repeat' split
  all_goals first | omega | rfl | (congr 1; omega)

set_option maxHeartbeats 2000000 in
theorem rotate_any (w : World) (B : Nat) (A : Option Addr) (n c : Nat) (f : Nat → Ent) (D : Nat → Nat) (h : RP w B A n c f D) (a m b : Nat) (ham : a < m) (hmb : m < b) (hb : b ≤ n) (hn : n ≤ 1000000) (fv : Value) :
    Calls Try.prog 26 #[.slice A n c, .int .i64 (a : Int), .int .i64 (m : Int), .int .i64 (b : Int), fv] w (RPost w B A n c f (rotD D a m b)) := by
  have HR := Lib.hid h
  clear h
  obtain ⟨i0, hi0⟩ : ∃ i0, i0 = m - a := ⟨_, rfl⟩
  obtain ⟨j0, hj0⟩ : ∃ j0, j0 = b - m := ⟨_, rfl⟩
  have e1 : (m : Int) - (a : Int) = (i0 : Int) := by omega
  have e2 : (b : Int) - (m : Int) = (j0 : Int) := by omega
  have w1 : IntKind.i64.wrap (i0 : Int) = (i0 : Int) := by rw [IntKind.wrap_i64]; omega
  have w2 : IntKind.i64.wrap (j0 : Int) = (j0 : Int) := by rw [IntKind.wrap_i64]; omega
  have H0 : Hid (i0 = m - a ∧ j0 = b - m) := Lib.hid ⟨hi0, hj0⟩
  clear hi0 hj0
  go_enter Try.func26, Try.ntmps26
  go_wp2_with fail
  clear e1 e2 w1 w2
  go_loopw [10, 11] (fun i j wr => ∃ (i' j' : Nat) (D' : Nat → Nat), i = .int .i64 i' ∧ j = .int .i64 j' ∧ 0 < i' ∧ 0 < j' ∧ i' ≤ m - a ∧ j' ≤ b - m ∧ rotD D' (m - i') m (m + j') = rotD D a m b ∧ RP wr B A n c f D' ∧ Below B w wr) (fun i j _ => (RowKit.intOf i).toNat + (RowKit.intOf j).toNat)
  case atStart =>
    obtain ⟨rfl, rfl⟩ := H0.out
    exact ⟨_, _, D, rfl, rfl, by omega, by omega, Nat.le_refl _, Nat.le_refl _, by rw [show m - (m - a) = a from by omega, show m + (b - m) = b from by omega], HR.out, Below.refl _ _⟩
  case round =>
    obtain ⟨i, j, D', rfl, rfl, hi, hj, hi2, hj2, he, hr, hB⟩ := hrel
    have HE := Lib.hid he
    have HK := Lib.hid hr
    have HB := Lib.hid hB
    clear he hr hB
    obtain ⟨x, hx⟩ : ∃ x, x = m - i := ⟨_, rfl⟩
    have ex : (m : Int) - (i : Int) = (x : Int) := by omega
    have wx : IntKind.i64.wrap (x : Int) = (x : Int) := by rw [IntKind.wrap_i64]; omega
    rcases Nat.lt_trichotomy i j with hlt | rfl | hgt
    · have t1 : decide ((i : Int) ≠ (j : Int)) = true := by simp; omega
      have t1' : ((i : Int) != (j : Int)) = true := by simp; omega
      have t2 : ¬ (j : Int) < (i : Int) := by omega
      obtain ⟨y, hy⟩ : ∃ y, y = m + j := ⟨_, rfl⟩
      obtain ⟨z, hz⟩ : ∃ z, z = m + j - i := ⟨_, rfl⟩
      obtain ⟨d, hd⟩ : ∃ d, d = j - i := ⟨_, rfl⟩
      have ey : (m : Int) + (j : Int) = (y : Int) := by omega
      have wy : IntKind.i64.wrap (y : Int) = (y : Int) := by rw [IntKind.wrap_i64]; omega
      have ez : (y : Int) - (i : Int) = (z : Int) := by omega
      have wz : IntKind.i64.wrap (z : Int) = (z : Int) := by rw [IntKind.wrap_i64]; omega
      have ed : (j : Int) - (i : Int) = (d : Int) := by omega
      have wd : IntKind.i64.wrap (d : Int) = (d : Int) := by rw [IntKind.wrap_i64]; omega
      have c1 := Lib.hid (fun fv => swapRange_any wr B A n c f D' HK.out x z i (by omega) (by omega) hn fv)
      have HX : Hid (x = m - i ∧ z = m + j - i ∧ d = j - i) := Lib.hid ⟨hx, hz, hd⟩
      clear hx hy hz hd
      go_wp2_with fail
      refine (c1.out _).mono ?_
      rintro e w1 ⟨rfl, hr1, hb1⟩
      have HK1 := Lib.hid hr1
      have HB1 := Lib.hid (HB.out.trans hb1)
      clear hr1 hb1
      go_wp2
      obtain ⟨rfl, rfl, rfl⟩ := HX.out
      refine ⟨⟨i, j - i, _, rfl, rfl, hi, by omega, hi2, by omega, ?_, HK1.out, HB1.out⟩, by simp [RowKit.intOf]; omega⟩
      rw [← HE.out]
      exact rot_lt D' m i j hlt (by omega)
    · have t1 : ((i : Int) != (i : Int)) = false := by simp
      have c1 := Lib.hid (fun fv => swapRange_any wr B A n c f D' HK.out x m i (by omega) (by omega) hn fv)
      have HX : Hid (x = m - i) := Lib.hid hx
      clear hx
      go_wp2_with fail
      refine (c1.out _).mono ?_
      rintro e w1 ⟨rfl, hr1, hb1⟩
      have HK1 := Lib.hid hr1
      have HB1 := Lib.hid (HB.out.trans hb1)
      clear hr1 hb1
      go_wp2
      go_end0
      refine ⟨rfl, ?_, HB1.out⟩
      rw [← HE.out, ← rot_eq D' m i (by omega), ← HX.out]
      exact HK1.out
    · have t1' : ((i : Int) != (j : Int)) = true := by simp; omega
      have t2 : (j : Int) < (i : Int) := by omega
      obtain ⟨d, hd⟩ : ∃ d, d = i - j := ⟨_, rfl⟩
      have ed : (i : Int) - (j : Int) = (d : Int) := by omega
      have wd : IntKind.i64.wrap (d : Int) = (d : Int) := by rw [IntKind.wrap_i64]; omega
      have c1 := Lib.hid (fun fv => swapRange_any wr B A n c f D' HK.out x m j (by omega) (by omega) hn fv)
      have HX : Hid (x = m - i ∧ d = i - j) := Lib.hid ⟨hx, hd⟩
      clear hx hd
      go_wp2_with fail
      refine (c1.out _).mono ?_
      rintro e w1 ⟨rfl, hr1, hb1⟩
      have HK1 := Lib.hid hr1
      have HB1 := Lib.hid (HB.out.trans hb1)
      clear hr1 hb1
      go_wp2
      obtain ⟨rfl, rfl⟩ := HX.out
      refine ⟨⟨i - j, j, _, rfl, rfl, by omega, hj, by omega, hj2, ?_, HK1.out, HB1.out⟩, by simp [RowKit.intOf]; omega⟩
      rw [← HE.out]
      exact rot_gt D' m i j hgt (by omega)

end Go.Proofs.Ytmmggalcebepeaa
