/-
  What strconv.FormatUint returns at base 16, of a number of at most 16 digits of two. Conditions: the library's tables hold what its text lays (Env); the number is below 65536.
-/
import Derived.Test.YtgmlpcmplglnoaaDoorTe
import Derived.Laws.IdiomStrings
import Derived.Deep.OwnRows
namespace Go.Proofs.YtgmlpcmplglnoaaDoor
open Go.RowKit
set_option maxRecDepth 100000

/-- A digit of sixteen, as it is written. -/
def hx (d : Nat) : Nat := if d < 10 then 48 + d else 87 + d
def hexn (u : Nat) : Nat := if u < 16 then 1 else if u < 256 then 2 else if u < 4096 then 3 else 4
def hexL (u : Nat) : List UInt8 := (List.range (hexn u)).map fun j => UInt8.ofNat (hx (u / 16 ^ (hexn u - 1 - j) % 16))
theorem hexn_bd (u : Nat) : 1 ≤ hexn u ∧ hexn u ≤ 4 := by unfold hexn; split <;> (try split) <;> (try split) <;> omega
theorem hx_lt (d : Nat) (h : d < 16) : hx d < 128 := by unfold hx; split <;> omega
theorem hexL_len (u : Nat) : (hexL u).length = hexn u := by simp [hexL]
theorem hexL_at (u j : Nat) (h : j < (hexL u).length) : ((hexL u)[j].toNat : Int) = (hx (u / 16 ^ (hexn u - 1 - j) % 16) : Nat) := by
  have h1 := hx_lt (u / 16 ^ (hexn u - 1 - j) % 16) (Nat.mod_lt _ (by omega))
  have h2 : (hexL u)[j]? = some (UInt8.ofNat (hx (u / 16 ^ (hexn u - 1 - j) % 16))) := by
    have hj : j < hexn u := by rw [hexL_len] at h; exact h
    unfold hexL
    simp [hj]
  rw [List.getElem?_eq_getElem h] at h2
  rw [Option.some.inj h2, UInt8.toNat_ofNat']
  omega

theorem tz64_16 (w : World) (h : w.cell? ⟨3, 15, none⟩ = some (.int .u8 4)) :
    Calls Tryd.prog 102 #[.int .u64 16] w fun e w' => e = .returned (.int .i64 4) ∧ w' = w := by
  have q1 : IntKind.u64.wrap (-16) = 18446744073709551600 := by decide
  have q2 : bits .and .u64 16 18446744073709551600 = 16 := by decide
  have q3 : IntKind.u64.wrap 4573923408821661840 = 4573923408821661840 := by decide
  go_enter Tryd.func102, Tryd.ntmps102
  go_wp2
  go_ret
  exact ⟨rfl, rfl⟩
theorem tz_16 (w : World) (h : w.cell? ⟨3, 15, none⟩ = some (.int .u8 4)) :
    Calls Tryd.prog 97 #[.int .u64 16] w fun e w' => e = .returned (.int .i64 4) ∧ w' = w := by
  go_enter Tryd.func97, Tryd.ntmps97
  go_wp2_with (go_at_call 102; refine (tz64_16 _ h).mono ?_; rintro e w' ⟨rfl, rfl⟩)
  go_ret
  exact ⟨rfl, rfl⟩
theorem pow2_16 (w : World) :
    Calls Tryd.prog 96 #[.int .i64 16] w fun e w' => e = .returned (.bool true) ∧ w' = w := by
  go_enter Tryd.func96, Tryd.ntmps96
  go_wp2
  go_ret
  exact ⟨rfl, rfl⟩
def digits36 : ByteArray := ⟨#[48, 49, 50, 51, 52, 53, 54, 55, 56, 57, 97, 98, 99, 100, 101, 102, 103, 104, 105, 106, 107, 108, 109, 110, 111, 112, 113, 114, 115, 116, 117, 118, 119, 120, 121, 122]⟩
theorem idx_hex (d : Nat) (h : d < 16) (w : World) : (Instr.index 9 (.string digits36) (.int .u64 d)).run Tryd.prog w = .ok (.int .u8 (hx d)) w := by
  have : d = 0 ∨ d = 1 ∨ d = 2 ∨ d = 3 ∨ d = 4 ∨ d = 5 ∨ d = 6 ∨ d = 7 ∨ d = 8 ∨ d = 9 ∨ d = 10 ∨ d = 11 ∨ d = 12 ∨ d = 13 ∨ d = 14 ∨ d = 15 := by omega
  rcases this with rfl | rfl | rfl | rfl | rfl | rfl | rfl | rfl | rfl | rfl | rfl | rfl | rfl | rfl | rfl | rfl <;> rfl
theorem and15 (x : Nat) (h : x < 65536) : bits .and .u64 (x : Int) 15 = ((x % 16 : Nat) : Int) := by
  have e1 : (x : Int) = u (BitVec.ofNat 64 x) := by
    unfold u
    rw [BitVec.toNat_ofNat]
    omega
  have e2 : (15 : Int) = u 15#64 := rfl
  rw [e1, e2, u_and]
  unfold u
  rw [BitVec.toNat_and, BitVec.toNat_ofNat, Nat.mod_eq_of_lt (by omega)]
  have := Nat.and_two_pow_sub_one_eq_mod x 4
  simp at this ⊢
  omega

theorem pow16n (k : Nat) : 16 ^ (k + 1) = 16 ^ k * 16 := rfl
theorem hexn_more (u k : Nat) (hu : u < 65536) (h : 16 ≤ u / 16 ^ k) (hk : k ≤ 4) : k + 1 < hexn u := by
  have hk' : k = 0 ∨ k = 1 ∨ k = 2 ∨ k = 3 ∨ k = 4 := by omega
  unfold hexn
  rcases hk' with rfl | rfl | rfl | rfl | rfl <;> simp at h <;> split <;> (try split) <;> (try split) <;> omega
theorem hexn_end (u k : Nat) (hu : u < 65536) (h : u / 16 ^ k < 16) (hk : k < hexn u) : hexn u = k + 1 := by
  have hk' : k = 0 ∨ k = 1 ∨ k = 2 ∨ k = 3 := by have := hexn_bd u; omega
  unfold hexn at hk ⊢
  rcases hk' with rfl | rfl | rfl | rfl <;> simp at h <;> (split at hk) <;> (try split at hk) <;> (try split at hk) <;> (try split) <;> (try split) <;> (try split) <;> omega
/-- Digits behind place 65 - k. -/
def dig (u k j : Nat) : Value := .int .u8 (if 65 - k ≤ j then (hx (u / 16 ^ (64 - j) % 16) : Nat) else 0)

set_option maxHeartbeats 2000000 in
theorem formatBits_16 (x : Nat) (hxb : x < 65536) (w : World) (he : Env w) :
    Calls Tryd.prog 85 #[.slice none 0 0, .int .u64 x, .int .i64 16, .bool false, .bool false] w fun e w' => e = .returned (.tuple #[.slice none 0 0, .string ⟨(hexL x).toArray⟩]) ∧ Below w.heap.size w w' := by
  go_enter Tryd.func85, Tryd.ntmps85
  go_name_bytes PB hPB
  go_name_bytes DG hDG
  have eDG : DG = digits36 := hDG.symm
  subst eDG
  clear hDG hPB
  go_wp2_with (first
    | (go_at_call 96; refine (pow2_16 _).mono ?_; rintro e w' ⟨rfl, rfl⟩)
    | (go_at_call 97; refine (tz_16 _ (Env.tz (he.go (by go_grown)))).mono ?_; rintro e w' ⟨rfl, rfl⟩))
  generalize hW1 : World.alloc _ _ = W1
  have hr0 : W1.rowIs w.heap.size 109 65 (fun _ => .int .u8 0) := by
    subst hW1
    refine World.rowIs_alloc w _ _ _ (fun i hi => ?_)
    have e : Tryd.zeroCells109 = Array.replicate 65 (.int .u8 0) := rfl
    rw [e] at hi ⊢
    simp at hi
    simp [hi]
  have hB1 : Below w.heap.size w W1 := by subst hW1; go_grown
  clear hW1
  have Hr0 := Lib.hid hr0
  clear hr0
  go_loopw [1, 13] (fun v i wr => ∃ k : Nat, k < hexn x ∧ v = .int .u64 ((x / 16 ^ k : Nat) : Int) ∧ i = .int .i64 (65 - (k : Int)) ∧ wr.rowIs w.heap.size 109 65 (dig x k) ∧ Below w.heap.size w wr) (fun _ i _ => (intOf i).toNat)
  case atStart =>
    refine ⟨0, (hexn_bd x).1, by simp, rfl, Hr0.out.congr (fun j hj => ?_), hB1⟩
    unfold dig
    rw [if_neg (by omega)]
  case round =>
    obtain ⟨k, hk, rfl, rfl, hrow, hB⟩ := hrel
    have hkb := hexn_bd x
    clear Hr0 hB1
    obtain ⟨y, hy⟩ : ∃ y, y = x / 16 ^ k := ⟨_, rfl⟩
    have hyb : y < 65536 := by rw [hy]; exact Nat.lt_of_le_of_lt (Nat.div_le_self _ _) hxb
    rw [← hy]
    have hgt := hrow.lt
    have hck := hrow.cell (i := 65 - k - 1) (by omega)
    have hfk := hrow.frozen (65 - k - 1)
    have hcast : (65 : Int) - (k : Int) - 1 = ((65 - k - 1 : Nat) : Int) := by omega
    have Hrow := Lib.hid hrow
    clear hrow
    by_cases hge : 16 ≤ y
    · have hge' : (16 : Int) ≤ (y : Int) := by omega
      have hm := hexn_more x k hxb (by rw [← hy]; exact hge) (by omega)
      have hand := and15 y hyb
      have hidx := idx_hex (y % 16) (Nat.mod_lt _ (by omega))
      obtain ⟨dI, hdI⟩ : ∃ d : Int, d = ((y % 16 : Nat) : Int) := ⟨_, rfl⟩
      obtain ⟨vI, hvI⟩ : ∃ d : Int, d = (hx (y % 16) : Nat) := ⟨_, rfl⟩
      rw [← hdI] at hand
      rw [← hdI, ← hvI] at hidx
      have Hy := Lib.hid hy
      have HvI := Lib.hid hvI
      have Hhm := Lib.hid hm
      clear hy hvI hdI hm
      obtain ⟨p, hp⟩ : ∃ p : Nat, p = 65 - k - 1 := ⟨_, rfl⟩
      rw [← hp] at hck hfk hcast
      have hp65 : p < 65 := by omega
      have hp65' : (p : Int) < 65 := by omega
      have Hp := Lib.hid hp
      clear hp
      go_wp2_with fail
      refine ⟨⟨k + 1, Hhm.out, ?_, ?_, ?_, ?_⟩, ?_⟩
      · rw [Hy.out, pow16n, ← Nat.div_div_eq_div_mul]
        simp
      · congr 1
        have := Hp.out
        omega
      · refine (Hrow.out.set p _).congr fun j hj => ?_
        have e := Hp.out
        by_cases hj2 : j = p
        · rw [if_pos hj2, HvI.out, Hy.out]
          unfold dig
          rw [if_pos (by omega), show 64 - j = k by omega]
        · rw [if_neg hj2]
          unfold dig
          by_cases h65 : 65 - k ≤ j
          · rw [if_pos h65, if_pos (by omega)]
          · rw [if_neg h65, if_neg (by omega)]
      · exact hB.setCell (by simp) _
      · have e := Hp.out
        simp [intOf]
        omega
    · have hge' : ¬ (16 : Int) ≤ (y : Int) := by omega
      have hm := hexn_end x k hxb (by rw [← hy]; omega) hk
      have hidx := idx_hex y (by omega)
      obtain ⟨vI, hvI⟩ : ∃ d : Int, d = (hx y : Nat) := ⟨_, rfl⟩
      rw [← hvI] at hidx
      obtain ⟨p, hp⟩ : ∃ p : Nat, p = 65 - k - 1 := ⟨_, rfl⟩
      rw [← hp] at hck hfk hcast
      have hp65 : p < 65 := by omega
      have hp65' : (p : Int) < 65 := by omega
      have hrow2 : (wr.setCell ⟨w.heap.size, p, none⟩ (.int .u8 vI)).rowIs w.heap.size 109 65 (dig x (k + 1)) := by
        refine (Hrow.out.set p _).congr fun j hj => ?_
        by_cases hj2 : j = p
        · rw [if_pos hj2, hvI, hy]
          unfold dig
          rw [if_pos (by omega), show 64 - j = k by omega]
          rw [Nat.mod_eq_of_lt (by omega)]
        · rw [if_neg hj2]
          unfold dig
          by_cases h65 : 65 - k ≤ j
          · rw [if_pos h65, if_pos (by omega)]
          · rw [if_neg h65, if_neg (by omega)]
      have hcv : (convert 40 9 (.slice (some ⟨w.heap.size, p, none⟩) (65 - p) (65 - p))).run Tryd.prog (wr.setCell ⟨w.heap.size, p, none⟩ (.int .u8 vI)) = .ok (.string ⟨(hexL x).toArray⟩) (wr.setCell ⟨w.heap.size, p, none⟩ (.int .u8 vI)) := by
        have h := run_convert_bytes_back (P := Tryd.prog) (wr.setCell ⟨w.heap.size, p, none⟩ (.int .u8 vI)) 40 9 5 ⟨w.heap.size, p, none⟩ (65 - p) (hexL x) Tryd.underlying40 Tryd.underlying5 Tryd.underlying9 (fun j hj => by
          have hj2 : j < hexn x := by rw [hexL_len] at hj; exact hj
          rw [addr_add, hrow2.cell (by omega), hexL_at x j hj]
          unfold dig
          rw [if_pos (by omega), show 64 - (p + j) = hexn x - 1 - j by omega])
        rw [hexL_len, show hexn x = 65 - p by omega] at h
        exact h
      have hal : Tryd.prog.arrayLen 109 = 65 := by kernel_rfl
      have hsl : ∀ W, (Instr.sliceAt 109 (.pointer (some ⟨w.heap.size, 0, none⟩)) (some (.int .i64 (p : Int))) none none).run Tryd.prog W = .ok (.slice (some ⟨w.heap.size, p, none⟩) (65 - p) (65 - p)) W := fun W => by
        rw [run_sliceAt_array_l W 109 ⟨w.heap.size, 0, none⟩ (by kernel_rfl) .i64 (p : Int) (by omega) (by rw [hal]; omega)]
        go_simp
        omega
      have Hy := Lib.hid hy
      have HvI := Lib.hid hvI
      have Hp := Lib.hid hp
      have bX : Below w.heap.size w (wr.setCell ⟨w.heap.size, p, none⟩ (.int .u8 vI)) := hB.setCell (by simp) _
      clear hy hvI hp hrow2 hm hal
      go_wp2
      refine bodyPost_ret (v := .tuple #[.slice none 0 0, .string ⟨(hexL x).toArray⟩]) (by simp [*, results, Tryd.results85, go_sem] <;> rfl) rfl ⟨rfl, ?_⟩
      exact bX

theorem formatUint_16 (x : Nat) (hxb : x < 65536) (w : World) (he : Env w) :
    Calls Tryd.prog 57 #[.int .u64 x, .int .i64 16] w fun e w' => e = .returned (.string ⟨(hexL x).toArray⟩) ∧ Below w.heap.size w w' := by
  have ci : ∀ w, Env w → Calls Tryd.prog 73 #[.int .u64 x, .int .i64 16] w fun e w' => e = .returned (.string ⟨(hexL x).toArray⟩) ∧ Below w.heap.size w w' := fun w he => by
    go_enter Tryd.func73, Tryd.ntmps73
    go_wp2_with fail
    refine (formatBits_16 x hxb _ he).mono ?_
    rintro e w1 ⟨rfl, hw1⟩
    go_wp2
    go_ret
    exact ⟨rfl, hw1⟩
  go_enter Tryd.func57, Tryd.ntmps57
  go_wp2_with fail
  refine (ci _ he).mono ?_
  rintro e w1 ⟨rfl, hw1⟩
  go_wp2
  go_ret
  exact ⟨rfl, hw1⟩

end Go.Proofs.YtgmlpcmplglnoaaDoor
