/-
  What math/bits.Len64 and LeadingZeros64 return. No condition.
-/
import Derived.Test.YtfebhfghjdedhaaDoorProg
import Derived.Test.YtfebhfghjdedhaaDoorAd
namespace Go.Proofs.YtfebhfghjdedhaaDoor
open Go.RowKit

def blen (n : Nat) : Nat := if n = 0 then 0 else Nat.log2 n + 1
def lenTab : ByteArray := ⟨#[0, 1, 2, 2, 3, 3, 3, 3, 4, 4, 4, 4, 4, 4, 4, 4, 5, 5, 5, 5, 5, 5, 5, 5, 5, 5, 5, 5, 5, 5, 5, 5, 6, 6, 6, 6, 6, 6, 6, 6, 6, 6, 6, 6, 6, 6, 6, 6, 6, 6, 6, 6, 6, 6, 6, 6, 6, 6, 6, 6, 6, 6, 6, 6, 7, 7, 7, 7, 7, 7, 7, 7, 7, 7, 7, 7, 7, 7, 7, 7, 7, 7, 7, 7, 7, 7, 7, 7, 7, 7, 7, 7, 7, 7, 7, 7, 7, 7, 7, 7, 7, 7, 7, 7, 7, 7, 7, 7, 7, 7, 7, 7, 7, 7, 7, 7, 7, 7, 7, 7, 7, 7, 7, 7, 7, 7, 7, 7, 8, 8, 8, 8, 8, 8, 8, 8, 8, 8, 8, 8, 8, 8, 8, 8, 8, 8, 8, 8, 8, 8, 8, 8, 8, 8, 8, 8, 8, 8, 8, 8, 8, 8, 8, 8, 8, 8, 8, 8, 8, 8, 8, 8, 8, 8, 8, 8, 8, 8, 8, 8, 8, 8, 8, 8, 8, 8, 8, 8, 8, 8, 8, 8, 8, 8, 8, 8, 8, 8, 8, 8, 8, 8, 8, 8, 8, 8, 8, 8, 8, 8, 8, 8, 8, 8, 8, 8, 8, 8, 8, 8, 8, 8, 8, 8, 8, 8, 8, 8, 8, 8, 8, 8, 8, 8, 8, 8, 8, 8, 8, 8, 8, 8, 8, 8, 8, 8, 8, 8, 8, 8, 8, 8, 8, 8, 8, 8]⟩

set_option maxRecDepth 100000 in
theorem lenTab_size : lenTab.size = 256 := by decide +kernel
set_option maxRecDepth 100000 in
theorem lenTab_at : ∀ k : Fin 256, (lenTab[k.val]'(by rw [lenTab_size]; exact k.isLt)).toNat = blen k.val := by decide +kernel
theorem blen_div (n s : Nat) (h : 1 ≤ n / 2 ^ s) : blen n = s + blen (n / 2 ^ s) := by
  have hp : 0 < 2 ^ s := Nat.two_pow_pos s
  have hn : n ≠ 0 := by
    rintro rfl
    simp at h
  unfold blen
  rw [if_neg hn, if_neg (by omega)]
  have hm : n / 2 ^ s ≠ 0 := by omega
  have key : n.log2 = s + (n / 2 ^ s).log2 := by
    rw [Nat.log2_eq_iff hn]
    have a1 := Nat.log2_self_le hm
    have a2 := Nat.lt_log2_self (n := n / 2 ^ s)
    constructor
    · rw [Nat.le_div_iff_mul_le hp] at a1
      rw [Nat.pow_add, Nat.mul_comm]
      exact a1
    · rw [Nat.div_lt_iff_lt_mul hp] at a2
      rw [Nat.add_assoc, Nat.pow_add, Nat.mul_comm]
      exact a2
  omega
theorem blen_le (k : Nat) (h : k < 256) : blen k ≤ 8 := by
  unfold blen
  split
  · omega
  · have := (Nat.log2_lt (n := k) (k := 8) (by omega)).2 (by omega)
    omega
theorem len_end (s k : Nat) (h : k < lenTab.size) (n : Int) (hs : s ≤ 56) (e : n.toNat / 2 ^ s = k) (h1 : 1 ≤ k) : wrap64 ((s : Int) + wrap64 ((lenTab[k]'h).toNat : Int)) = (blen n.toNat : Int) := by
  subst e
  rw [lenTab_size] at h
  have ht := lenTab_at ⟨_, h⟩
  have hb := blen_le _ h
  rw [blen_div n.toNat s h1]
  simp only at ht
  rw [ht]
  unfold wrap64
  omega
theorem len_end0 (k : Nat) (h : k < lenTab.size) (n : Int) (e : n.toNat = k) : wrap64 (wrap64 ((lenTab[k]'h).toNat : Int)) = (blen n.toNat : Int) := by
  subst e
  rw [lenTab_size] at h
  have ht := lenTab_at ⟨_, h⟩
  have hb := blen_le _ h
  simp only at ht
  rw [ht]
  unfold wrap64
  omega

set_option maxHeartbeats 2000000 in
set_option maxRecDepth 100000 in
theorem len64_any (n : Int) (h0 : 0 ≤ n) (hn : n < 18446744073709551616) (w : World) :
    Calls Tryd.prog 88 #[.int .u64 n] w fun e w' => e = .returned (.int .i64 (blen n.toNat)) ∧ w = w' := by
  by_cases h1 : 4294967296 ≤ n
  · by_cases h2 : 65536 ≤ n / 4294967296
    · by_cases h3 : 256 ≤ n / 4294967296 / 65536
      · go_enter Tryd.func88, Tryd.ntmps88; go_wp2; go_ret; exact ⟨ret_int (len_end 56 _ _ n (by omega) (by omega) (by omega)), rfl⟩
      · go_enter Tryd.func88, Tryd.ntmps88; go_wp2; go_ret; exact ⟨ret_int (len_end 48 _ _ n (by omega) (by omega) (by omega)), rfl⟩
    · by_cases h3 : 256 ≤ n / 4294967296
      · go_enter Tryd.func88, Tryd.ntmps88; go_wp2; go_ret; exact ⟨ret_int (len_end 40 _ _ n (by omega) (by omega) (by omega)), rfl⟩
      · go_enter Tryd.func88, Tryd.ntmps88; go_wp2; go_ret; exact ⟨ret_int (len_end 32 _ _ n (by omega) (by omega) (by omega)), rfl⟩
  · by_cases h2 : 65536 ≤ n
    · by_cases h3 : 256 ≤ n / 65536
      · go_enter Tryd.func88, Tryd.ntmps88; go_wp2; go_ret; exact ⟨ret_int (len_end 24 _ _ n (by omega) (by omega) (by omega)), rfl⟩
      · go_enter Tryd.func88, Tryd.ntmps88; go_wp2; go_ret; exact ⟨ret_int (len_end 16 _ _ n (by omega) (by omega) (by omega)), rfl⟩
    · by_cases h3 : 256 ≤ n
      · go_enter Tryd.func88, Tryd.ntmps88; go_wp2; go_ret; exact ⟨ret_int (len_end 8 _ _ n (by omega) (by omega) (by omega)), rfl⟩
      · go_enter Tryd.func88, Tryd.ntmps88
        go_wp2
        go_ret
        exact ⟨ret_int (len_end0 _ _ n (by omega)), rfl⟩

theorem blen_le64 (x : BitVec 64) : blen (u x).toNat ≤ 64 := by
  have h := x.isLt
  have e : (u x).toNat = x.toNat := by unfold u; simp
  rw [e]
  unfold blen
  split
  · omega
  · rename_i h0
    have := (Nat.log2_lt (n := x.toNat) (k := 64) h0).2 h
    omega
def lead (x : BitVec 64) : Int := 64 - blen (u x).toNat
end Go.Proofs.YtfebhfghjdedhaaDoor
