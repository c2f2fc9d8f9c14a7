/-
  What New and Order of package recency do. Condition: the ring lies at the pointer's block.
-/
import Derived.Test.YtkkjdpmkiedbiaaJc
import Derived.Test.YtkkjdpmkiedbiaaRn
namespace Go.Proofs.Ytkkjdpmkiedbiaa
open Go.RowKit
set_option maxRecDepth 100000

def mixR (k : Nat) : Nat → Lnk := fun j => if j < k then ⟨j, j⟩ else ⟨0, 0⟩
theorem mixR_succ (k : Nat) : up (mixR k) k ⟨k, k⟩ = mixR (k + 1) := by
  funext j
  unfold up mixR
  by_cases e : j = k
  · subst e; simp
  · rw [if_neg e]
    by_cases h : j < k
    · rw [if_pos h, if_pos (by omega)]
    · rw [if_neg h, if_neg (by omega)]
theorem rowR_mix (n : Nat) : rowR n (mixR n) = rowR n selfR := by
  apply List.ext_getElem
  · simp [rowR]
  · intro j h1 h2
    rw [rowR_at, rowR_at]
    rw [rowR_len] at h1
    unfold mixR selfR
    rw [if_pos h1]
theorem made_two (a : Value) (k : Nat) : (madeCells #[a, a] k).toList = List.replicate k a := by
  apply List.ext_getElem
  · simp [madeCells]
  · intro j h1 h2
    simp only [madeCells, Array.toList_map, List.getElem_map, List.getElem_replicate]
    have : ∀ x : Nat, (#[a, a] : Array Value)[x % 2]! = a := fun x => by
      rcases Nat.mod_two_eq_zero_or_one x with h | h <;> rw [h] <;> rfl
    exact this _
theorem row_zero (n : Nat) : KLn.row (rowR n (mixR 0)) = List.replicate (n * 2) (.int .i64 0) := by
  induction n with
  | zero => rfl
  | succ n ih =>
    have e : rowR (n + 1) (mixR 0) = rowR n (mixR 0) ++ [⟨0, 0⟩] := by
      unfold rowR
      rw [List.range_succ, List.map_append]
      rfl
    rw [e, KLn.row_append, ih, show (n + 1) * 2 = n * 2 + 2 from by omega, ← List.replicate_append_replicate]
    rfl
theorem ln_info : ∃ i, Try.prog.info? 52 = some i ∧ i.zero = some (.agg #[.int .i64 0, .int .i64 0]) ∧ i.size = 2 ∧ i.bytes = 16 := by
  have h := info_ln
  cases hi : Try.prog.info? 52 with
  | none => rw [hi] at h; simp at h
  | some i =>
    rw [hi] at h
    simp at h
    exact ⟨i, rfl, h.1, h.2.1, h.2.2⟩
set_option maxHeartbeats 1000000 in
theorem rcnew_any (m : Int) (w : World) : Calls Try.prog 9 #[.int .i64 m] w (RcNew m w) := by
  obtain ⟨N, hN, hN2⟩ : ∃ N : Nat, (N : Int) = min (max m 0) 1024 + 1 ∧ N ≤ 1025 := ⟨(min (max m 0) 1024 + 1).toNat, by omega, by omega⟩
  have HS : Hid ((Rc.new m).n = N) := Lib.hid (by simp only [Rc.new]; omega)
  obtain ⟨i9, j1, j2, j3, j4⟩ := ln_info
  have J2 := Lib.hid j2
  have J3 := Lib.hid j3
  have HN := Lib.hid hN
  have hb9 : i9.bytes * N ≤ 281474976710656 := by rw [j4]; omega
  clear j2 j3 j4 hN
  go_enter Try.func9, Try.ntmps9
  go_wp2_with (refine wpList_make_full w rfl (.tmp 8) (.tmp 8) 44 rfl w.heap.size 52 i9 _ 2 Try.underlying44 j1 J2.out J3.out .i64 .i64 _ _ N (by rfl) (by rfl) (by have := HN.out; omega) (by have := HN.out; omega) hb9 (by simp only [maxLen]; omega) (Nat.le_refl _) ?_; intro w1 ho hg)
  all_goals
    have z1 := hg.size
    have hlw : w.heap.size < w1.heap.size := (ho.lt w.heap.size rfl).2
    have ho2 : w1.ownsRow 0 52 2 (.slice (some ⟨w.heap.size, 0, none⟩) N N) N (KLn.row (rowR N (mixR 0))) := by
      rw [row_zero, ← made_two]
      exact own_low ho (Nat.zero_le _)
    have HO := Lib.hid ho2
    have hB1 : Below w.heap.size w w1 := (Below.refl _ _).grown hg (Nat.le_refl _) (fun b hb => by cases hb)
    have HB1 := Lib.hid hB1
    clear ho ho2 hg hB1
    go_loopw [17] (fun n wr => ∃ k : Nat, k ≤ N ∧ n = .int .i64 k ∧ RcA wr w1.heap.size (.slice (some ⟨w.heap.size, 0, none⟩) N N) N (mixR k) 0 ∧ Below w.heap.size w wr) (fun n _ => N - (intOf n).toNat)
    case atStart => exact ⟨0, Nat.zero_le _, rfl, ⟨hp_new rfl, HO.out.alloc _⟩, HB1.out.alloc (by omega) _⟩
    case round =>
      obtain ⟨k, hk, rfl, hA, hB⟩ := hrel
      have HA := Lib.hid hA
      have HB := Lib.hid hB
      by_cases hlt : k < N
      · have t1 : decide ((k : Int) < (N : Int)) = true := by simp; omega
        obtain ⟨c0, c1, f0, f1, hz⟩ := hA.head
        obtain ⟨r0, r1, e0, e1⟩ := hA.at k hlt
        have HP := Lib.hid (hA.put k ⟨k, k⟩ hlt)
        have k1 : (k : Int) < (N : Int) := by omega
        generalize (mixR k k).a = y0 at r0
        generalize (mixR k k).b = y1 at r1
        clear hA hB
        go_wp2
        go_roundw
        case rel =>
          refine ⟨k + 1, by omega, by go_num, ?_, ?_⟩
          · rw [← mixR_succ]
            exact HP.out
          · exact (HB.out.setCell (p := ⟨w.heap.size, k * 2, none⟩) (Nat.le_refl _) _).setCell (p := ⟨w.heap.size, k * 2 + 1, none⟩) (Nat.le_refl _) _
        case measure => simp [intOf]; omega
      · have hkN : k = N := by omega
        subst hkN
        have t1 : decide ((k : Int) < (k : Int)) = false := by simp
        clear hA hB
        go_wp2
        go_ret
        refine ⟨w1.heap.size, _, rfl, ⟨_, selfR, rfl, Rc.new_ok m, HA.out.1, ?_⟩, HB.out, ?_⟩
        · rw [HS.out, ← rowR_mix]
          exact HA.out.2
        · rintro b (rfl | hb)
          · omega
          · simp only [Value.ownBlock, Option.some.injEq] at hb
            omega

end Go.Proofs.Ytkkjdpmkiedbiaa
