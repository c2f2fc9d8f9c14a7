/-
  What text.digit, text.number and text.group return. Conditions: what they say of their arguments.
-/
import Derived.Test.YtgmlpcmplglnoaaDoorRefC
import Derived.Lib.OthersKept
import Derived.Laws.RangeAny
namespace Go.Proofs.YtgmlpcmplglnoaaDoor
open Go.RowKit
set_option maxRecDepth 100000

/-- A digit of sixteen, of a rune: its value; whether it is one. -/
def dgv (r : Int) : Int := if 48 ≤ r ∧ r ≤ 57 then r - 48 else if 97 ≤ r ∧ r ≤ 102 then r - 97 + 10 else if 65 ≤ r ∧ r ≤ 70 then r - 65 + 10 else 0
def dgo (r : Int) : Bool := decide (48 ≤ r ∧ r ≤ 57) || decide (97 ≤ r ∧ r ≤ 102) || decide (65 ≤ r ∧ r ≤ 70)

theorem digit_any (r : Int) (h0 : -2147483648 ≤ r) (h1 : r ≤ 2147483647) (w : World) :
    Calls Tryd.prog 52 #[.int .i32 r] w fun e w' => e = .returned (.tuple #[.int .i64 (dgv r), .bool (dgo r)]) ∧ w' = w := by
  by_cases a : 48 ≤ r ∧ r ≤ 57
  · obtain ⟨a1, a2⟩ := a
    rw [show dgv r = r - 48 from if_pos ⟨a1, a2⟩, show dgo r = true by unfold dgo; simp [a1, a2]]
    go_enter Tryd.func52, Tryd.ntmps52
    go_wp2
    refine bodyPost_ret (v := .tuple #[.int .i64 (r - 48), .bool true]) (by simp [*, results, Tryd.results52, go_sem] <;> rfl) rfl ⟨rfl, rfl⟩
  · by_cases b : 97 ≤ r ∧ r ≤ 102
    · obtain ⟨b1, b2⟩ := b
      have a2 : ¬ r ≤ 57 := by omega
      have a1 : 48 ≤ r := by omega
      rw [show dgv r = r - 97 + 10 by unfold dgv; rw [if_neg a, if_pos ⟨b1, b2⟩], show dgo r = true by unfold dgo; simp [b1, b2]]
      clear a
      go_enter Tryd.func52, Tryd.ntmps52
      go_wp2
      refine bodyPost_ret (v := .tuple #[.int .i64 (r - 97 + 10), .bool true]) (by simp [*, results, Tryd.results52, go_sem] <;> rfl) rfl ⟨rfl, rfl⟩
    · by_cases c : 65 ≤ r ∧ r ≤ 70
      · obtain ⟨c1, c2⟩ := c
        have a2 : ¬ r ≤ 57 := by omega
        have a1 : 48 ≤ r := by omega
        have b1 : ¬ 97 ≤ r := by omega
        rw [show dgv r = r - 65 + 10 by unfold dgv; rw [if_neg a, if_neg b, if_pos ⟨c1, c2⟩], show dgo r = true by unfold dgo; simp [c1, c2]]
        clear a b
        go_enter Tryd.func52, Tryd.ntmps52
        go_wp2
        refine bodyPost_ret (v := .tuple #[.int .i64 (r - 65 + 10), .bool true]) (by simp [*, results, Tryd.results52, go_sem] <;> rfl) rfl ⟨rfl, rfl⟩
      · rw [show dgv r = 0 by unfold dgv; rw [if_neg a, if_neg b, if_neg c], show dgo r = false by unfold dgo; simp only [Bool.or_eq_false_iff, decide_eq_false_iff_not]; exact ⟨⟨a, b⟩, c⟩]
        go_enter Tryd.func52, Tryd.ntmps52
        go_wp2
        all_goals first | (exfalso; omega) | skip
        all_goals refine bodyPost_ret (v := .tuple #[.int .i64 0, .bool false]) (by simp [*, results, Tryd.results52, go_sem] <;> rfl) rfl ⟨rfl, rfl⟩

/-- A number, so much at most, from its byte i on. -/
def numGo (most : Int) : List UInt8 → Nat → Int → Option Int
  | [], _, n => some n
  | b :: l, i, n => if dgo b.toNat = true ∧ dgv b.toNat ≤ 9 ∧ ¬ (0 < i ∧ n = 0) ∧ n * 10 + dgv b.toNat ≤ most then numGo most l (i + 1) (n * 10 + dgv b.toNat) else none
def numL (most : Int) (l : List UInt8) : Option Int := if l = [] then none else numGo most l 0 0
theorem numGo_cons (most : Int) (b : UInt8) (l : List UInt8) (i : Nat) (n : Int) : numGo most (b :: l) i n = if dgo b.toNat = true ∧ dgv b.toNat ≤ 9 ∧ ¬ (0 < i ∧ n = 0) ∧ n * 10 + dgv b.toNat ≤ most then numGo most l (i + 1) (n * 10 + dgv b.toNat) else none := rfl
theorem numGo_nil (most : Int) (i : Nat) (n : Int) : numGo most [] i n = some n := rfl
theorem toList_ne (s : ByteArray) (i : Nat) (h : i < s.size) : s.data.toList ≠ [] := fun e => by
  have h2 : i < s.data.toList.length := by simpa using h
  rw [e] at h2
  simp at h2
theorem dgv_bd (r : Int) : 0 ≤ dgv r ∧ dgv r ≤ 15 := by unfold dgv; split <;> (try split) <;> (try split) <;> omega
theorem dgo_high (r : Int) (h : 128 ≤ r) : dgo r = false := by
  unfold dgo
  simp only [Bool.or_eq_false_iff, decide_eq_false_iff_not]
  omega
theorem drop_at (s : ByteArray) (i : Nat) (h : i < s.size) : s.data.toList.drop i = s[i] :: s.data.toList.drop (i + 1) := by
  have h' : i < s.data.toList.length := by simpa using h
  rw [List.drop_eq_getElem_cons h']
  rfl

set_option maxHeartbeats 1000000 in
theorem number_any (s : ByteArray) (most : Int) (hm0 : 0 ≤ most) (hm1 : most ≤ 65535) (w : World) :
    Calls Tryd.prog 28 #[.string s, .int .i64 most] w fun e w' => e = .returned (.tuple #[.int .i64 ((numL most s.data.toList).getD 0), .bool (numL most s.data.toList).isSome]) ∧ Below w.heap.size w w' := by
  go_enter Tryd.func28, Tryd.ntmps28
  go_wp2
  go_loopw [6] (fun v wr => ∃ (i : Nat) (n : Int), v = .int .i64 n ∧ wr.heap[w.heap.size]? = some (.stringIter s i) ∧ Below w.heap.size w wr ∧ i ≤ s.size ∧ 0 ≤ n ∧ n ≤ most ∧ numGo most (s.data.toList.drop i) i n = numGo most s.data.toList 0 0) (fun _ wr => s.size - wr.iterPos w.heap.size)
  case atStart =>
    exact ⟨0, 0, rfl, World.iter_heap _ _ _, ((Below.refl _ w).alloc (Nat.le_refl _) _), Nat.zero_le _, Int.le_refl _, hm0, rfl⟩
  case round =>
    obtain ⟨i, n, rfl, hit, hb, hi, hn0, hn1, hgo⟩ := hrel
    by_cases hp : i < s.size
    · have hnx : ∀ ty, (Instr.next (.pointer (some ⟨w.heap.size, 0, none⟩)) true ty).run Tryd.prog wr = _ := fun ty => Lib.run_next_any_at wr w.heap.size s i ty hit hp
      have hd1 := decode_le s i
      have hit2 := Lib.iterAt_heap wr w.heap.size s i (i + (Utf8.decode s i).2) hit
      have hb2 := Lib.below_iterAt hb (k := w.heap.size) (Nat.le_refl _) s (i + (Utf8.decode s i).2)
      have hs0 := toList_ne s i hp
      have hbad : numGo most (s.data.toList.drop i) i n = none → numL most s.data.toList = none := fun h => by unfold numL; rw [if_neg hs0, ← hgo, h]
      have hst := drop_at s i hp
      have hmeas : s.size - wr.iterPos w.heap.size = s.size - i := by simp [World.iterPos, hit]
      by_cases hlow : (s[i]'hp).toNat < 128
      · rw [decode_ascii s i hp hlow] at hnx hd1 hit2 hb2
        obtain ⟨r, hr⟩ : ∃ r : Int, r = ((s[i]'hp).toNat : Int) := ⟨_, rfl⟩
        have hr1 : 0 ≤ r ∧ r < 128 := by omega
        simp only [← hr] at hnx
        rw [hst, numGo_cons] at hgo hbad
        rw [← hr] at hgo hbad
        obtain ⟨d0, d1⟩ := dgv_bd r
        have cd := digit_any r (by omega) (by omega) (wr.iterAt w.heap.size s (i + 1))
        clear hr hst hd1 hit
        generalize dgv r = d at *
        cases hok : dgo r with
        | false =>
          rw [hok] at cd hgo hbad
          have hN := hbad (if_neg (by simp))
          clear hgo hbad
          go_wp2_with (go_at_call 52; refine cd.mono ?_; rintro e w' ⟨rfl, rfl⟩)
          refine bodyPost_ret (v := .tuple #[.int .i64 0, .bool false]) (by simp [*, results, Tryd.results28, go_sem] <;> rfl) rfl ⟨by rw [hN]; rfl, hb2⟩
        | true =>
          rw [hok] at cd hgo hbad
          by_cases h9 : d ≤ 9
          · by_cases hz : 0 < i ∧ n = 0
            · have hN := hbad (if_neg (by omega))
              clear hgo hbad
              obtain ⟨hz1, rfl⟩ := hz
              have hz2 : (0 : Int) < (i : Int) := by omega
              have h9' : ¬ 9 < d := by omega
              go_wp2_with (go_at_call 52; refine cd.mono ?_; rintro e w' ⟨rfl, rfl⟩)
              refine bodyPost_ret (v := .tuple #[.int .i64 0, .bool false]) (by simp [*, results, Tryd.results28, go_sem] <;> rfl) rfl ⟨by rw [hN]; rfl, hb2⟩
            · have h9' : ¬ 9 < d := by omega
              by_cases hmx : n * 10 + d ≤ most
              · rw [if_pos ⟨rfl, h9, hz, hmx⟩] at hgo
                have hmx' : ¬ most < n * 10 + d := by omega
                clear hbad
                by_cases hz1 : 0 < (i : Int)
                · have hz2 : (n == 0) = false := by simp; omega
                  go_wp2_with (go_at_call 52; refine cd.mono ?_; rintro e w' ⟨rfl, rfl⟩)
                  go_roundw
                  case rel => exact ⟨i + 1, n * 10 + d, rfl, hit2, hb2, hp, by omega, hmx, hgo⟩
                  case measure => rw [hmeas]; simp only [World.iterPos, hit2]; omega
                · go_wp2_with (go_at_call 52; refine cd.mono ?_; rintro e w' ⟨rfl, rfl⟩)
                  go_roundw
                  case rel => exact ⟨i + 1, n * 10 + d, rfl, hit2, hb2, hp, by omega, hmx, hgo⟩
                  case measure => rw [hmeas]; simp only [World.iterPos, hit2]; omega
              · have hN := hbad (if_neg (by omega))
                have hmx' : most < n * 10 + d := by omega
                clear hgo hbad
                by_cases hz1 : 0 < (i : Int)
                · have hz2 : (n == 0) = false := by simp; omega
                  go_wp2_with (go_at_call 52; refine cd.mono ?_; rintro e w' ⟨rfl, rfl⟩)
                  refine bodyPost_ret (v := .tuple #[.int .i64 0, .bool false]) (by simp [*, results, Tryd.results28, go_sem] <;> rfl) rfl ⟨by rw [hN]; rfl, hb2⟩
                · go_wp2_with (go_at_call 52; refine cd.mono ?_; rintro e w' ⟨rfl, rfl⟩)
                  refine bodyPost_ret (v := .tuple #[.int .i64 0, .bool false]) (by simp [*, results, Tryd.results28, go_sem] <;> rfl) rfl ⟨by rw [hN]; rfl, hb2⟩
          · have hN := hbad (if_neg (by omega))
            clear hgo hbad
            have h9' : 9 < d := by omega
            go_wp2_with (go_at_call 52; refine cd.mono ?_; rintro e w' ⟨rfl, rfl⟩)
            refine bodyPost_ret (v := .tuple #[.int .i64 0, .bool false]) (by simp [*, results, Tryd.results28, go_sem] <;> rfl) rfl ⟨by rw [hN]; rfl, hb2⟩
      · have hh := (decode_high s i hp (by omega)).1
        rw [hst, numGo_cons] at hbad
        have hN := hbad (if_neg (by rw [dgo_high _ (by omega)]; simp))
        have cd := digit_any ((Utf8.decode s i).1 : Int) (by omega) (by omega) (wr.iterAt w.heap.size s (i + (Utf8.decode s i).2))
        rw [dgo_high _ (by omega)] at cd
        clear hgo hbad hst
        generalize Utf8.decode s i = dd at *
        go_wp2_with (go_at_call 52; refine cd.mono ?_; rintro e w' ⟨rfl, rfl⟩)
        refine bodyPost_ret (v := .tuple #[.int .i64 0, .bool false]) (by simp [*, results, Tryd.results28, go_sem] <;> rfl) rfl ⟨by rw [hN]; rfl, hb2⟩
    · have hnx : ∀ ty, (Instr.next (.pointer (some ⟨w.heap.size, 0, none⟩)) true ty).run Tryd.prog wr = _ := fun ty => Lib.run_next_end_at wr w.heap.size s i ty hit hp
      obtain rfl : i = s.size := by omega
      rw [List.drop_eq_nil_of_le (by simp), numGo_nil] at hgo
      by_cases hs0 : s.data.toList = []
      · obtain rfl : s = ⟨#[]⟩ := by cases s; simp at hs0; subst hs0; rfl
        have hN : numL most (⟨#[]⟩ : ByteArray).data.toList = none := rfl
        obtain rfl : n = 0 := by simpa [numGo] using hgo
        clear hgo
        go_wp2
        refine bodyPost_ret (v := .tuple #[.int .i64 0, .bool false]) (by simp [*, results, Tryd.results28, go_sem] <;> rfl) rfl ⟨rfl, hb⟩
      · have hN : numL most s.data.toList = some n := by unfold numL; rw [if_neg hs0, ← hgo]
        have hne : ¬ s.toList = [] := by rw [ByteArray.toList_eq]; exact hs0
        clear hgo
        go_wp2
        refine bodyPost_ret (v := .tuple #[.int .i64 n, .bool true]) (by simp [*, results, Tryd.results28, go_sem] <;> rfl) rfl ⟨by rw [hN]; rfl, hb⟩

/-- A group: one to four digits of sixteen. -/
def grpGo : List UInt8 → Int → Option Int
  | [], n => some n
  | b :: l, n => if dgo b.toNat = true then grpGo l (n * 16 + dgv b.toNat) else none
def grpL (l : List UInt8) : Option Int := if l = [] ∨ 4 < l.length then none else grpGo l 0
theorem grpGo_cons (b : UInt8) (l : List UInt8) (n : Int) : grpGo (b :: l) n = if dgo b.toNat = true then grpGo l (n * 16 + dgv b.toNat) else none := rfl
theorem grpGo_nil (n : Int) : grpGo [] n = some n := rfl
theorem pow16 (i : Nat) : (16 : Int) ^ (i + 1) = 16 ^ i * 16 := rfl
theorem pow16_le (i : Nat) (h : i ≤ 4) : (16 : Int) ^ i ≤ 65536 ∧ 1 ≤ (16 : Int) ^ i := by
  have : i = 0 ∨ i = 1 ∨ i = 2 ∨ i = 3 ∨ i = 4 := by omega
  rcases this with rfl | rfl | rfl | rfl | rfl <;> decide

set_option maxHeartbeats 1000000 in
theorem group_any (s : ByteArray) (w : World) :
    Calls Tryd.prog 68 #[.string s] w fun e w' => e = .returned (.tuple #[.int .i64 ((grpL s.data.toList).getD 0), .bool (grpL s.data.toList).isSome]) ∧ Below w.heap.size w w' := by
  have hlen : s.data.toList.length = s.size := by simp
  by_cases hs0 : s.data.toList = []
  · have hN : grpL s.data.toList = none := if_pos (.inl hs0)
    have hne : s.toList.isEmpty = true := by rw [ByteArray.toList_eq, hs0]; rfl
    go_enter Tryd.func68, Tryd.ntmps68
    go_wp2
    refine bodyPost_ret (v := .tuple #[.int .i64 0, .bool false]) (by simp [*, results, Tryd.results68, go_sem] <;> rfl) rfl ⟨by rw [hN]; rfl, ?_⟩
    go_grown
  have hne : s.toList.isEmpty = false := by rw [ByteArray.toList_eq]; cases h : s.data.toList with | nil => exact absurd h hs0 | cons a b => rfl
  by_cases h4 : 4 < s.size
  · have hN : grpL s.data.toList = none := if_pos (.inr (by omega))
    have h4' : 4 < (s.size : Int) := by omega
    go_enter Tryd.func68, Tryd.ntmps68
    go_wp2
    refine bodyPost_ret (v := .tuple #[.int .i64 0, .bool false]) (by simp [*, results, Tryd.results68, go_sem] <;> rfl) rfl ⟨by rw [hN]; rfl, ?_⟩
    go_grown
  have h4' : ¬ 4 < (s.size : Int) := by omega
  have hL : grpL s.data.toList = grpGo s.data.toList 0 := if_neg (by rw [hlen]; exact fun h => h.elim hs0 h4)
  go_enter Tryd.func68, Tryd.ntmps68
  go_wp2
  go_loopw [4] (fun v wr => ∃ (i : Nat) (n : Int), v = .int .i64 n ∧ wr.heap[w.heap.size]? = some (.stringIter s i) ∧ Below w.heap.size w wr ∧ i ≤ s.size ∧ 0 ≤ n ∧ n < 16 ^ i ∧ grpGo (s.data.toList.drop i) n = grpGo s.data.toList 0) (fun _ wr => s.size - wr.iterPos w.heap.size)
  case atStart =>
    exact ⟨0, 0, rfl, World.iter_heap _ _ _, ((Below.refl _ w).alloc (Nat.le_refl _) _), Nat.zero_le _, Int.le_refl _, by decide, rfl⟩
  case round =>
    obtain ⟨i, n, rfl, hit, hb, hi, hn0, hn1, hgo⟩ := hrel
    have hpw := pow16_le i (by omega)
    by_cases hp : i < s.size
    · have hnx : ∀ ty, (Instr.next (.pointer (some ⟨w.heap.size, 0, none⟩)) true ty).run Tryd.prog wr = _ := fun ty => Lib.run_next_any_at wr w.heap.size s i ty hit hp
      have hd1 := decode_le s i
      have hit2 := Lib.iterAt_heap wr w.heap.size s i (i + (Utf8.decode s i).2) hit
      have hb2 := Lib.below_iterAt hb (k := w.heap.size) (Nat.le_refl _) s (i + (Utf8.decode s i).2)
      have hst := drop_at s i hp
      have hmeas : s.size - wr.iterPos w.heap.size = s.size - i := by simp [World.iterPos, hit]
      by_cases hlow : (s[i]'hp).toNat < 128
      · rw [decode_ascii s i hp hlow] at hnx hd1 hit2 hb2
        obtain ⟨r, hr⟩ : ∃ r : Int, r = ((s[i]'hp).toNat : Int) := ⟨_, rfl⟩
        have hr1 : 0 ≤ r ∧ r < 128 := by omega
        simp only [← hr] at hnx
        rw [hst, grpGo_cons, ← hr] at hgo
        obtain ⟨d0, d1⟩ := dgv_bd r
        have cd := digit_any r (by omega) (by omega) (wr.iterAt w.heap.size s (i + 1))
        clear hr hst hd1 hit
        generalize dgv r = d at *
        cases hok : dgo r with
        | false =>
          rw [hok] at cd hgo
          have hN : grpL s.data.toList = none := by rw [hL, ← hgo]; rfl
          clear hgo hL
          go_wp2_with (go_at_call 52; refine cd.mono ?_; rintro e w' ⟨rfl, rfl⟩)
          refine bodyPost_ret (v := .tuple #[.int .i64 0, .bool false]) (by simp [*, results, Tryd.results68, go_sem] <;> rfl) rfl ⟨by rw [hN]; rfl, hb2⟩
        | true =>
          rw [hok, if_pos rfl] at hgo
          rw [hok] at cd
          have hB := pow16 i
          have q0 : 0 ≤ n * 16 + d := by omega
          have q1 : n * 16 + d < 16 ^ (i + 1) := by omega
          go_wp2_with (go_at_call 52; refine cd.mono ?_; rintro e w' ⟨rfl, rfl⟩)
          go_roundw
          case rel => exact ⟨i + 1, n * 16 + d, rfl, hit2, hb2, hp, q0, q1, hgo⟩
          case measure => rw [hmeas]; simp only [World.iterPos, hit2]; omega
      · have hh := (decode_high s i hp (by omega)).1
        have cd := digit_any ((Utf8.decode s i).1 : Int) (by omega) (by omega) (wr.iterAt w.heap.size s (i + (Utf8.decode s i).2))
        rw [dgo_high _ (by omega)] at cd
        have hN : grpL s.data.toList = none := by rw [hL, ← hgo, hst, grpGo_cons, dgo_high _ (by omega)]; rfl
        clear hgo hst hL
        generalize Utf8.decode s i = dd at *
        go_wp2_with (go_at_call 52; refine cd.mono ?_; rintro e w' ⟨rfl, rfl⟩)
        refine bodyPost_ret (v := .tuple #[.int .i64 0, .bool false]) (by simp [*, results, Tryd.results68, go_sem] <;> rfl) rfl ⟨by rw [hN]; rfl, hb2⟩
    · have hnx : ∀ ty, (Instr.next (.pointer (some ⟨w.heap.size, 0, none⟩)) true ty).run Tryd.prog wr = _ := fun ty => Lib.run_next_end_at wr w.heap.size s i ty hit hp
      obtain rfl : i = s.size := by omega
      rw [List.drop_eq_nil_of_le (by simp), grpGo_nil] at hgo
      have hN : grpL s.data.toList = some n := by rw [hL, ← hgo]
      clear hgo hL
      go_wp2
      refine bodyPost_ret (v := .tuple #[.int .i64 n, .bool true]) (by simp [*, results, Tryd.results68, go_sem] <;> rfl) rfl ⟨by rw [hN]; rfl, hb⟩

end Go.Proofs.YtgmlpcmplglnoaaDoor
