/-
  What Bytes of the document's answer for layer 1 returns. No condition.
-/
import Derived.Test.YtfebhfghjdedhaaDoorRefF
import Derived.Test.YtfebhfghjdedhaaDoorLawE
namespace Go.Proofs.YtfebhfghjdedhaaDoor
open Go.RowKit

theorem nb_wd (v : Bool) : wd v = 8 * nb v := by cases v <;> rfl
theorem byte_step (a : Ad) (j t : Nat) (hj : j < nb a.v6) (ht : t < 8) : byteAt a j / 2 ^ (8 - t) * 2 + rawv a ((8 * j + t : Nat) : Int) = byteAt a j / 2 ^ (7 - t) := by
  have hn := nb_le a.v6
  have hw := nb_wd a.v6
  obtain ⟨b0, b1⟩ := byteAt_bd a j
  have hb := byteAt_bit a j (by omega) (7 - t) (by omega)
  rw [rawv_D a _ (by omega), show 127 - (8 * j + t) = 120 - 8 * j + (7 - t) from by omega, ← hb]
  obtain ⟨n, hn'⟩ := Int.eq_ofNat_of_zero_le b0
  rw [hn', Int.toNat_natCast, Nat.testBit_eq_decide_div_mod_eq, show 8 - t = (7 - t) + 1 from by omega]
  have e1 : ((n : Int) / 2 ^ (7 - t + 1)) = ((n / 2 ^ (7 - t) / 2 : Nat) : Int) := by
    rw [Nat.div_div_eq_div_mul, ← Nat.pow_succ]
    simp
  have e2 : ((n : Int) / 2 ^ (7 - t)) = ((n / 2 ^ (7 - t) : Nat) : Int) := by simp
  rw [e1, e2]
  generalize n / 2 ^ (7 - t) = m
  by_cases h : m % 2 = 1
  · simp [h]; omega
  · simp [h]; omega
/-- Byte j once m digits have been laid. -/
def bpart (a : Ad) (m j : Nat) : Int := byteAt a j / 2 ^ (8 - min (m - 8 * j) 8)
theorem bpart_bd (a : Ad) (m j : Nat) : 0 ≤ bpart a m j ∧ bpart a m j < 256 := by
  obtain ⟨b0, b1⟩ := byteAt_bd a j
  unfold bpart
  exact ⟨Int.ediv_nonneg b0 (Int.le_of_lt (Int.pow_pos (by decide))), Int.lt_of_le_of_lt (Int.ediv_le_self _ b0) b1⟩
theorem bpart_zero (a : Ad) (m j : Nat) (h : m ≤ 8 * j) : bpart a m j = 0 := by
  obtain ⟨b0, b1⟩ := byteAt_bd a j
  unfold bpart
  rw [show 8 - min (m - 8 * j) 8 = 8 from by omega]
  exact Int.ediv_eq_zero_of_lt b0 b1
theorem bpart_full (a : Ad) (m j : Nat) (h : 8 * j + 8 ≤ m) : bpart a m j = byteAt a j := by
  unfold bpart
  rw [show 8 - min (m - 8 * j) 8 = 0 from by omega]
  simp
theorem bpart_step (a : Ad) (m : Nat) (hm : m < wd a.v6) : bpart a m (m / 8) * 2 + rawv a (m : Int) = bpart a (m + 1) (m / 8) := by
  have hw := nb_wd a.v6
  have h := byte_step a (m / 8) (m % 8) (by omega) (by omega)
  rw [show 8 * (m / 8) + m % 8 = m from by omega] at h
  unfold bpart
  rw [show 8 - min (m - 8 * (m / 8)) 8 = 8 - m % 8 from by omega, show 8 - min (m + 1 - 8 * (m / 8)) 8 = 7 - m % 8 from by omega]
  exact h
theorem bpart_other (a : Ad) (m j : Nat) (h : j ≠ m / 8) : bpart a (m + 1) j = bpart a m j := by
  rcases Nat.lt_or_ge j (m / 8) with h1 | h1
  · rw [bpart_full a _ j (by omega), bpart_full a _ j (by omega)]
  · rw [bpart_zero a _ j (by omega), bpart_zero a _ j (by omega)]

set_option maxHeartbeats 2000000 in
theorem refBytes_full (a : Ad) (w : World) :
    Calls Tryd.prog 32 #[.agg #[.int .u64 (u a.hi), .int .u64 (u a.lo), .bool a.v6]] w (BytesPost w a) := by
  have hn := nb_le a.v6
  have hw := nb_wd a.v6
  have HW := Lib.hid hw
  have hwn : nb a.v6 ≤ wd a.v6 ∧ wd a.v6 ≤ 128 := by omega
  have hq : ((wd a.v6 : Nat) : Int) / 8 = (nb a.v6 : Int) := by omega
  have hmk := fun W : World => run_make_row' (P := Tryd.prog) 36 5 (.int .u8 0) 1 Tryd.underlying36 info_u8 rfl .i64 .i64 (nb a.v6) (by omega) (by omega) W
  clear hw
  go_enter Tryd.func32, Tryd.ntmps32
  go_wp2_with fail
  refine (refDigits_any a _).mono ?_
  rintro e w1 ⟨g, c, rfl, hg, hrow, hw1⟩
  have b1 := below_of (w := w) (by go_grown) hw1
  have hgw : w.heap.size + 1 ≤ g := by simpa using hg
  have hgl := hrow.1
  have HR := Lib.hid hrow
  clear hrow hw1 hg
  go_wp2_with fail
  clear hmk
  go_loopw [5] (fun i wr => ∃ m : Nat, m ≤ wd a.v6 ∧ i = .int .i64 m ∧ Hid (wr.rowIs w1.heap.size 5 (nb a.v6) (fun j => .int .u8 (bpart a m j))) ∧ Hid (Row wr g (wd a.v6) (fun j => rawv a j)) ∧ Below w.heap.size w wr) (fun i _ => wd a.v6 - (intOf i).toNat)
  case atStart =>
    refine ⟨0, Nat.zero_le _, rfl, Lib.hid ?_, Lib.hid (HR.out.below (Below.alloc (Below.refl _ _) (Nat.le_refl _) _) hgl), ?_⟩
    · exact (World.rowIs_made w1 (.int .u8 0) (nb a.v6) 5).congr fun j _ => by rw [bpart_zero a 0 j (by omega)]
    · go_grown
  case round =>
    obtain ⟨m, hm, rfl, hrow, hR, hB⟩ := hrel
    obtain ⟨W, rfl⟩ : ∃ W, W = wr := ⟨_, rfl⟩
    by_cases hlt : m < wd a.v6
    · have hlt' : (m : Int) < (wd a.v6 : Int) := by omega
      obtain ⟨q, hqm⟩ : ∃ q, q = m / 8 := ⟨_, rfl⟩
      have hQ : (m : Int) / 8 = (q : Int) := by omega
      have hqn : q < nb a.v6 := by have := HW.out; omega
      have ck := hrow.out.cell hqn
      have fk := hrow.out.frozen q
      have dk := hR.out.2.1 m hlt
      have hgt := hrow.out.lt
      have hgg := hR.out.1
      obtain ⟨c0, c1⟩ := bpart_bd a m q
      obtain ⟨d0, d1⟩ := raw_bd a m hlt
      obtain ⟨e0, e1⟩ := bpart_bd a (m + 1) q
      have hst : bpart a m q * 2 + rawv a (m : Int) = bpart a (m + 1) q := by subst hqm; exact bpart_step a m hlt
      have HS := Lib.hid hst
      have hlim : bpart a m q * 2 + rawv a (m : Int) < 256 := by omega
      have HQ := Lib.hid hqm
      clear hst hqm e0 e1
      have hz := hB.size
      have Lc := fun x : Later W.heap.size W => (x.cell (p := ⟨w1.heap.size, q, none⟩) hgt).trans ck
      have Ld := fun x : Later W.heap.size W => (x.cell (p := ⟨g, m, none⟩) hgg).trans dk
      go_wp2_with fail
      refine region_tail 15 W.heap.size (by kernel_rfl) (by kernel_rfl) ?_
      simp only [List.take_succ_cons, List.take_zero, List.drop_succ_cons, List.drop_zero]
      repeat (go_big_quiet_step (fail))
      refine wpQuiet_nil ?_
      intro x
      have hx : Below w.heap.size w x.at := hB.trans (x.below.mono hz)
      have Hr3 := Lib.hid (hrow.out.of_block (x.below.block _ hgt))
      have HR3 := Lib.hid (hR.out.below x.below hgg)
      have ck3 := (x.below.cell (p := ⟨w1.heap.size, q, none⟩) hgt).trans ck
      have fk3 := (x.below.frozen (p := ⟨w1.heap.size, q, none⟩) hgt).trans fk
      clear Lc Ld ck fk dk hrow hR hgt hgg
      generalize x.at = w3 at *
      clear x hB hz W
      go_wp2_with fail
      have hne : w1.heap.size ≠ g := by omega
      have hwz : w.heap.size ≤ w1.heap.size := by omega
      refine ⟨⟨m + 1, by omega, by go_num, Lib.hid ((Hr3.out.set q _).congr fun j hj => ?_), Lib.hid ⟨by simpa using HR3.out.1, fun j hj => ?_, fun j => ?_⟩, hx.setCell (by simp; omega) _⟩, by simp [intOf]; omega⟩
      · by_cases e : j = q
        · subst e
          rw [if_pos rfl]
          exact congrArg (Value.int IntKind.u8) HS.out
        · rw [if_neg e, bpart_other a m j (by rw [← HQ.out]; exact e)]
      · rw [World.cell?_setCell_far _ _ _ _ hne]
        exact HR3.out.2.1 j hj
      · rw [World.frozen?_setCell]
        exact HR3.out.2.2 j
    · obtain rfl : m = wd a.v6 := by omega
      have hlt' : ¬ ((wd a.v6 : Nat) : Int) < (wd a.v6 : Int) := by omega
      go_wp2
      go_ret
      exact ⟨w1.heap.size, rfl, b1.size, hrow.out.congr fun k hk => by rw [bpart_full a _ k (by have := HW.out; omega)], hB⟩
theorem refBytes_any (a : Ad) (w : World) :
    Calls Tryd.prog 32 #[.agg #[.int .u64 (u a.hi), .int .u64 (u a.lo), .bool a.v6]] w fun e w' => ∃ v, e = .returned v ∧ Held (nb a.v6) (byteAt a) v w' ∧ Below w.heap.size w w' := by
  refine (refBytes_full a w).mono ?_
  rintro e w' ⟨g, rfl, _, hrow, hb⟩
  exact ⟨_, rfl, ⟨g, nb a.v6, rfl, hrow.lt, fun k hk => by rw [Nat.zero_add, hrow.cell hk]⟩, hb⟩

end Go.Proofs.YtfebhfghjdedhaaDoor
