/-
  What swapRange of Go's package slices leaves. Condition: the row is the caller's own.
-/
import Derived.Test.YtmmggalcebepeaaNc
namespace Go.Proofs.Ytmmggalcebepeaa
open Go.RowKit
set_option maxRecDepth 100000

/-- m of them changed places with m others. -/
def swR (D : Nat → Nat) (a b m : Nat) : Nat → Nat := fun k => if a ≤ k ∧ k < a + m then D (k - a + b) else if b ≤ k ∧ k < b + m then D (k - b + a) else D k
theorem swR_zero (D : Nat → Nat) (a b : Nat) : swR D a b 0 = D := by
  funext k
  unfold swR
  rw [if_neg (by omega), if_neg (by omega)]
theorem swR_succ (D : Nat → Nat) (a b m : Nat) (h : a + m < b) : sw (swR D a b m) (a + m) (b + m) = swR D a b (m + 1) := by
  funext k
  unfold sw swR
  by_cases h1 : k = b + m
  · subst h1
    rw [if_pos rfl, if_neg (by omega), if_neg (by omega), if_neg (by omega), if_pos (by omega)]
    congr 1
    omega
  · rw [if_neg h1]
    by_cases h2 : k = a + m
    · subst h2
      rw [if_pos rfl, if_neg (by omega), if_neg (by omega), if_pos (by omega)]
      congr 1
      omega
    · rw [if_neg h2]
      by_cases h3 : a ≤ k ∧ k < a + m
      · rw [if_pos h3, if_pos (by omega)]
      · rw [if_neg h3, if_neg (c := a ≤ k ∧ k < a + (m + 1)) (by omega)]
        by_cases h4 : b ≤ k ∧ k < b + m
        · rw [if_pos h4, if_pos (by omega)]
        · rw [if_neg h4, if_neg (by omega)]
/-- What a call leaves that changes the row alone. -/
def RPost (w : World) (B : Nat) (A : Option Addr) (n c : Nat) (f : Nat → Ent) (D : Nat → Nat) (e : Ending) (w' : World) : Prop := e = .returned (.tuple #[]) ∧ RP w' B A n c f D ∧ Below B w w'

set_option maxHeartbeats 2000000 in
theorem swapRange_any (w : World) (B : Nat) (A : Option Addr) (n c : Nat) (f : Nat → Ent) (D : Nat → Nat) (h : RP w B A n c f D) (a b m : Nat) (hab : a + m ≤ b) (hb : b + m ≤ n) (hn : n ≤ 1000000) (fv : Value) :
    Calls Try.prog 27 #[.slice A n c, .int .i64 (a : Int), .int .i64 (b : Int), .int .i64 (m : Int), fv] w (RPost w B A n c f (swR D a b m)) := by
  have HR := Lib.hid h
  clear h
  go_enter Try.func27, Try.ntmps27
  go_wp2_with fail
  go_loopw [10] (fun i wr => ∃ k : Nat, k ≤ m ∧ i = .int .i64 k ∧ RP wr B A n c f (swR D a b k) ∧ Below B w wr) (fun i _ => m - (RowKit.intOf i).toNat)
  case atStart => exact ⟨0, Nat.zero_le _, rfl, by rw [swR_zero]; exact HR.out, Below.refl _ _⟩
  case round =>
    obtain ⟨k, hk, rfl, hr, hB⟩ := hrel
    by_cases hlt : k < m
    · have hlt' : (k : Int) < (m : Int) := by omega
      have hk9 : (k : Int) + 1 ≤ 1000000000 := by omega
      obtain ⟨g, rfl, gB, gz⟩ := hr.addr (by omega)
      obtain ⟨p, hp⟩ : ∃ p, p = a + k := ⟨_, rfl⟩
      obtain ⟨q, hq⟩ : ∃ q, q = b + k := ⟨_, rfl⟩
      have ep : (a : Int) + (k : Int) = (p : Int) := by omega
      have eq : (b : Int) + (k : Int) = (q : Int) := by omega
      have wp : IntKind.i64.wrap (p : Int) = (p : Int) := by rw [IntKind.wrap_i64]; omega
      have wq : IntKind.i64.wrap (q : Int) = (q : Int) := by rw [IntKind.wrap_i64]; omega
      have ip := fun V => idx_ent g n c p (by omega) V
      have iq := fun V => idx_ent g n c q (by omega) V
      have HE : Hid (sw (swR D a b k) p q = swR D a b (k + 1)) := Lib.hid (by rw [hp, hq]; exact swR_succ D a b k (by omega))
      have HPQ : Hid (p < n ∧ q < n ∧ k + 1 ≤ m) := Lib.hid (by omega)
      have HK := Lib.hid hr
      have HB := Lib.hid hB
      obtain ⟨W, rfl⟩ : ∃ W, W = wr := ⟨_, rfl⟩
      generalize swR D a b k = D' at *
      clear hr hB hp hq
      obtain ⟨p0, p1, pf0, pf1⟩ := HK.out.cells p HPQ.out.1
      obtain ⟨q0, q1, qf0, qf1⟩ := HK.out.cells q HPQ.out.2.1
      have HN := Lib.hid (RP.swapped (w := W.drew) (HK.out.keep ((Below.refl _ _).drew)) p q HPQ.out.1 HPQ.out.2.1)
      have HBN := Lib.hid (below_set4 (i := p) (j := q) (y0 := .int .i64 (f (D' q)).i) (y1 := .int .i64 (f (D' q)).sc) (y2 := .int .i64 (f (D' p)).i) (y3 := .int .i64 (f (D' p)).sc) HB.out.drew gB)
      clear HK HB
      generalize (f (D' p)) = ep1 at *
      generalize (f (D' q)) = eq1 at *
      go_wp2_with fail
      go_region
      all_goals go_wp2
      all_goals exact ⟨⟨k + 1, HPQ.out.2.2, by go_num, by rw [← HE.out]; exact HN.out, HBN.out⟩, by simp [RowKit.intOf]; omega⟩
    · obtain rfl : k = m := by omega
      have hlt' : ¬ (k : Int) < (k : Int) := by omega
      go_wp2
      go_end0
      exact ⟨rfl, hr, hB⟩

end Go.Proofs.Ytmmggalcebepeaa
