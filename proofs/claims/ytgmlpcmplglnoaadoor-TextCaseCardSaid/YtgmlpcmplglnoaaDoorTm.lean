/-
  Plain facts on written numbers and groups: what is joined is split again; a written number is that number; so is a written group. No condition.
-/
import Derived.Test.YtgmlpcmplglnoaaDoorTi
import Derived.Test.YtgmlpcmplglnoaaDoorTb
namespace Go.Proofs.YtgmlpcmplglnoaaDoor
open Go.RowKit

theorem index_one_none (c : UInt8) : ∀ x : List UInt8, c ∉ x → Lib.index x [c] = -1
  | [], _ => rfl
  | b :: l, h => by
    have h1 : ¬ c = b := fun e => h (by simp [e])
    have h2 := index_one_none c l (fun e => h (by simp [e]))
    unfold Lib.index
    rw [if_neg (by simp [List.isPrefixOf, h1]), h2]
    rfl
theorem index_one_at (c : UInt8) (r : List UInt8) : ∀ x : List UInt8, c ∉ x → Lib.index (x ++ c :: r) [c] = x.length
  | [], _ => by
    show Lib.index (c :: r) [c] = 0
    unfold Lib.index
    rw [if_pos (by simp [List.isPrefixOf])]
  | b :: l, h => by
    have h1 : ¬ c = b := fun e => h (by simp [e])
    have h2 := index_one_at c r l (fun e => h (by simp [e]))
    show Lib.index (b :: (l ++ c :: r)) [c] = _
    unfold Lib.index
    rw [if_neg (by simp [List.isPrefixOf, h1]), h2, if_neg (by simp)]
    simp
theorem splitK_none (c : UInt8) (x : List UInt8) (h : c ∉ x) : ∀ k, Lib.splitK [c] 0 k x = [x]
  | 0 => rfl
  | k + 1 => by
    unfold Lib.splitK
    rw [index_one_none c x h]
    rfl
theorem splitK_cons (c : UInt8) (x r : List UInt8) (h : c ∉ x) (k : Nat) : Lib.splitK [c] 0 (k + 1) (x ++ c :: r) = x :: Lib.splitK [c] 0 k r := by
  have e : Lib.splitK [c] 0 (k + 1) (x ++ c :: r) = if Lib.index (x ++ c :: r) [c] == -1 then [x ++ c :: r] else (x ++ c :: r).take ((Lib.index (x ++ c :: r) [c]).toNat + 0) :: Lib.splitK [c] 0 k ((x ++ c :: r).drop ((Lib.index (x ++ c :: r) [c]).toNat + [c].length)) := rfl
  rw [e, index_one_at c r x h, if_neg (by simp)]
  congr 1
  · simp
  · congr 1
    simp
theorem join_cons2 (x y : List UInt8) (r : List (List UInt8)) (c : UInt8) : Lib.join (x :: y :: r) [c] = x ++ c :: Lib.join (y :: r) [c] := by
  rw [Lib.join_cons, Lib.join_cons]
  simp [Lib.joinTail]
theorem splitK_join (c : UInt8) : ∀ (xs : List (List UInt8)) (k : Nat), xs ≠ [] → xs.length ≤ k + 1 → (∀ x ∈ xs, c ∉ x) → Lib.splitK [c] 0 k (Lib.join xs [c]) = xs
  | [], _, h, _, _ => absurd rfl h
  | [x], k, _, _, h => by rw [Lib.join_one]; exact splitK_none c x (h x (by simp)) k
  | x :: y :: r, k, _, hl, h => by
    simp only [List.length_cons] at hl
    obtain ⟨k', rfl⟩ : ∃ k', k = k' + 1 := ⟨k - 1, by omega⟩
    rw [join_cons2, splitK_cons c x _ (h x (by simp)), splitK_join c (y :: r) k' (by simp) (by simp; omega) (fun z hz => h z (by simp at hz ⊢; exact .inr hz))]
theorem join_ge (c : UInt8) : ∀ xs : List (List UInt8), xs.length ≤ (Lib.join xs [c]).length + 1
  | [] => by simp
  | x :: r => by
    rw [Lib.join_length]
    simp
theorem partsL_join (c : UInt8) (xs : List (List UInt8)) (n : Nat) (h0 : xs ≠ []) (hn : xs.length ≤ n + 1) (h : ∀ x ∈ xs, c ∉ x) : partsL c n (Lib.join xs [c]) = xs := by
  unfold partsL
  have := join_ge c xs
  exact splitK_join c xs _ h0 (by omega) h

theorem numGo_append (most : Int) (b : UInt8) : ∀ (l : List UInt8) (i : Nat) (q : Int), numGo most (l ++ [b]) i q = (numGo most l i q).bind fun r => numGo most [b] (i + l.length) r
  | [], i, q => rfl
  | a :: l, i, q => by
    show numGo most (a :: (l ++ [b])) i q = _
    rw [numGo_cons, numGo_cons]
    split
    · rw [numGo_append most b l, List.length_cons, show i + 1 + l.length = i + (l.length + 1) by omega]
    · rfl
theorem dd_nat (d : Nat) (h : d < 10) : (UInt8.ofNat (48 + d)).toNat = 48 + d := by
  rw [UInt8.toNat_ofNat']
  omega
theorem dd_o (d : Nat) (h : d < 10) : dgo ((UInt8.ofNat (48 + d)).toNat : Int) = true ∧ dgv ((UInt8.ofNat (48 + d)).toNat : Int) = d := by
  rw [dd_nat d h]
  unfold dgo dgv
  constructor
  · simp
    omega
  · rw [if_pos (by omega)]
    omega
theorem dec_num (most : Int) : ∀ n : Nat, 0 ≤ most → numGo most (Lib.decDigits n) 0 0 = if (n : Int) ≤ most then some (n : Int) else none := by
  intro n
  induction n using Nat.strongRecOn with
  | _ n ih =>
    intro hm
    rw [Lib.decDigits]
    by_cases h : n < 10
    · rw [dif_pos h, numGo_cons, (dd_o n h).1, (dd_o n h).2]
      by_cases hn : (n : Int) ≤ most
      · rw [if_pos ⟨rfl, by omega, by omega, by omega⟩, if_pos hn, numGo_nil]
        simp
      · rw [if_neg (by omega), if_neg hn]
    · rw [dif_neg h, numGo_append, ih (n / 10) (by omega) hm]
      have hd := dd_o (n % 10) (by omega)
      by_cases h1 : ((n / 10 : Nat) : Int) ≤ most
      · rw [if_pos h1]
        show numGo most [UInt8.ofNat (48 + n % 10)] _ ((n / 10 : Nat) : Int) = _
        rw [numGo_cons, hd.1, hd.2]
        by_cases hn : (n : Int) ≤ most
        · rw [if_pos ⟨rfl, by omega, by omega, by omega⟩, if_pos hn, numGo_nil]
          congr 1
          omega
        · rw [if_neg (by omega), if_neg hn]
      · rw [if_neg h1, if_neg (by omega)]
        rfl
theorem dec_ne (n : Nat) : Lib.decDigits n ≠ [] := by
  rw [Lib.decDigits]
  split <;> simp
theorem dec_mem (n : Nat) : ∀ b ∈ Lib.decDigits n, 48 ≤ b.toNat ∧ b.toNat ≤ 57 := by
  induction n using Nat.strongRecOn with
  | _ n ih =>
    intro b hb
    rw [Lib.decDigits] at hb
    split at hb
    · rw [List.mem_singleton] at hb
      subst hb
      rw [dd_nat n (by omega)]
      omega
    · rcases List.mem_append.1 hb with h | h
      · exact ih (n / 10) (by omega) b h
      · rw [List.mem_singleton] at h
        subst h
        rw [dd_nat (n % 10) (by omega)]
        omega
theorem numL_dec (most : Int) (n : Nat) (hm : 0 ≤ most) : numL most (Lib.decDigits n) = if (n : Int) ≤ most then some (n : Int) else none := by
  unfold numL
  rw [if_neg (dec_ne n), dec_num most n hm]
theorem numL_itoa (most n : Int) (hm : 0 ≤ most) : numL most (Lib.itoa n) = if 0 ≤ n ∧ n ≤ most then some n else none := by
  unfold Lib.itoa
  by_cases h : n < 0
  · rw [if_pos h, if_neg (by omega)]
    rfl
  · rw [if_neg h, numL_dec most _ hm]
    have e : ((n.toNat : Nat) : Int) = n := by omega
    rw [e]
    by_cases h1 : n ≤ most
    · rw [if_pos h1, if_pos ⟨by omega, h1⟩]
    · rw [if_neg h1, if_neg (by omega)]

theorem hx_nat (d : Nat) (h : d < 16) : (UInt8.ofNat (hx d)).toNat = hx d := by
  have := hx_lt d h
  rw [UInt8.toNat_ofNat']
  omega
theorem hx_o (d : Nat) (h : d < 16) : dgo ((UInt8.ofNat (hx d)).toNat : Int) = true ∧ dgv ((UInt8.ofNat (hx d)).toNat : Int) = d := by
  rw [hx_nat d h]
  unfold dgo dgv hx
  by_cases h10 : d < 10
  · rw [if_pos h10]
    constructor
    · simp
      omega
    · rw [if_pos (by omega)]
      omega
  · rw [if_neg h10]
    constructor
    · simp
      omega
    · rw [if_neg (by omega), if_pos (by omega)]
      omega
theorem grpGo_hx (d : Nat) (h : d < 16) (l : List UInt8) (n : Int) : grpGo (UInt8.ofNat (hx d) :: l) n = grpGo l (n * 16 + d) := by
  rw [grpGo_cons, (hx_o d h).1, (hx_o d h).2, if_pos rfl]
theorem grpL_hexL (u : Nat) (hu : u < 65536) : grpL (hexL u) = some (u : Int) := by
  have hb := hexn_bd u
  have hl := hexL_len u
  unfold grpL
  rw [if_neg (fun h => by
    rcases h with h | h
    · rw [h] at hl; simp at hl; omega
    · omega)]
  have h4 : hexn u = 1 ∨ hexn u = 2 ∨ hexn u = 3 ∨ hexn u = 4 := by omega
  rcases h4 with h | h | h | h
  · have e : hexL u = [UInt8.ofNat (hx (u % 16))] := by unfold hexL; rw [h]; simp [List.range_succ]
    rw [e, grpGo_hx _ (by omega), grpGo_nil]
    have : u < 16 := by unfold hexn at h; split at h <;> (try split at h) <;> (try split at h) <;> omega
    congr 1
    omega
  · have e : hexL u = [UInt8.ofNat (hx (u / 16 % 16)), UInt8.ofNat (hx (u % 16))] := by unfold hexL; rw [h]; simp [List.range_succ]
    rw [e, grpGo_hx _ (by omega), grpGo_hx _ (by omega), grpGo_nil]
    have : u < 256 := by unfold hexn at h; split at h <;> (try split at h) <;> (try split at h) <;> omega
    congr 1
    omega
  · have e : hexL u = [UInt8.ofNat (hx (u / 256 % 16)), UInt8.ofNat (hx (u / 16 % 16)), UInt8.ofNat (hx (u % 16))] := by unfold hexL; rw [h]; simp [List.range_succ]
    rw [e, grpGo_hx _ (by omega), grpGo_hx _ (by omega), grpGo_hx _ (by omega), grpGo_nil]
    have : u < 4096 := by unfold hexn at h; split at h <;> (try split at h) <;> (try split at h) <;> omega
    congr 1
    omega
  · have e : hexL u = [UInt8.ofNat (hx (u / 4096 % 16)), UInt8.ofNat (hx (u / 256 % 16)), UInt8.ofNat (hx (u / 16 % 16)), UInt8.ofNat (hx (u % 16))] := by unfold hexL; rw [h]; simp [List.range_succ]
    rw [e, grpGo_hx _ (by omega), grpGo_hx _ (by omega), grpGo_hx _ (by omega), grpGo_hx _ (by omega), grpGo_nil]
    congr 1
    omega
theorem hexL_mem (u : Nat) : ∀ b ∈ hexL u, (48 ≤ b.toNat ∧ b.toNat ≤ 57) ∨ (97 ≤ b.toNat ∧ b.toNat ≤ 102) := by
  intro b hb
  unfold hexL at hb
  obtain ⟨j, _, rfl⟩ := List.mem_map.1 hb
  have hd : u / 16 ^ (hexn u - 1 - j) % 16 < 16 := Nat.mod_lt _ (by omega)
  rw [hx_nat _ hd]
  generalize u / 16 ^ (hexn u - 1 - j) % 16 = d at hd
  unfold hx
  split <;> omega
theorem hexL_ne (u : Nat) : hexL u ≠ [] := fun h => by
  have h1 := hexL_len u
  rw [h] at h1
  have := (hexn_bd u).1
  simp at h1
  omega

end Go.Proofs.YtgmlpcmplglnoaaDoor
