/-
  Plain facts: an address as it is written is read as that address; so is a prefix. No condition.
-/
import Derived.Test.YtgmlpcmplglnoaaDoorTq
import Derived.Test.YtgmlpcmplglnoaaDoorMathP
namespace Go.Proofs.YtgmlpcmplglnoaaDoor
open Go.RowKit

/-- An address' groups. -/
def grps (a : Ad) : List Nat := (List.range 8).map fun j => (byteAt a (2 * j) * 256 + byteAt a (2 * j + 1)).toNat
theorem grps_len (a : Ad) : (grps a).length = 8 := by simp [grps]
theorem grps_hex (a : Ad) : grpTs (byteAt a) 8 = (grps a).map hexL := by
  unfold grpTs grps
  rw [List.map_map]
  rfl
theorem grps_lt (a : Ad) : ∀ u ∈ grps a, u < 65536 := by
  intro u hu
  unfold grps at hu
  obtain ⟨j, _, rfl⟩ := List.mem_map.1 hu
  have h1 := byteAt_bd a (2 * j)
  have h2 := byteAt_bd a (2 * j + 1)
  omega
theorem flatG_grps (a : Ad) : flatG (grps a) = (List.range 16).map (byteAt a) := by
  have e : ∀ j, ((((byteAt a (2 * j) * 256 + byteAt a (2 * j + 1)).toNat : Nat) : Int) / 256 = byteAt a (2 * j)) ∧ ((((byteAt a (2 * j) * 256 + byteAt a (2 * j + 1)).toNat : Nat) : Int) % 256 = byteAt a (2 * j + 1)) := fun j => by
    have h1 := byteAt_bd a (2 * j)
    have h2 := byteAt_bd a (2 * j + 1)
    omega
  unfold flatG grps
  simp only [List.range_succ, List.range_zero, List.nil_append, List.map_cons, List.map_nil, List.cons_append, List.flatMap_cons, List.flatMap_nil, (e _).1, (e _).2, List.append_nil]
theorem at0_range (f : Nat → Int) (n j : Nat) (h : j < n) : at0 ((List.range n).map f) j = f j := by
  unfold at0
  rw [List.getD_eq_getElem?_getD, List.getElem?_map, List.getElem?_range h]
  rfl
theorem fHi_congr (f g : Nat → Int) : ∀ n, (∀ j, j < n → f j = g j) → fHi f n = fHi g n
  | 0, _ => rfl
  | n + 1, h => by
    unfold fHi
    rw [fHi_congr f g n (fun j hj => h j (by omega)), h n (by omega)]
theorem fLo_congr (f g : Nat → Int) : ∀ n, (∀ j, j < n → f j = g j) → fLo f n = fLo g n
  | 0, _ => rfl
  | n + 1, h => by
    unfold fLo
    rw [fLo_congr f g n (fun j hj => h j (by omega)), h n (by omega)]
theorem fromv_congr (f g : Nat → Int) (v : Bool) (h : ∀ j, j < nb v → f j = g j) : fromv f v = fromv g v := by
  unfold fromv
  rw [fHi_congr f g _ (fun j hj => h j (by unfold nb; exact hj)), fLo_congr f g _ (fun j hj => h j (by unfold nb; exact hj))]
theorem join_mem (c : UInt8) : ∀ (xs : List (List UInt8)) (b : UInt8), b ∈ Lib.join xs [c] → b = c ∨ ∃ x ∈ xs, b ∈ x
  | [], b, h => by cases h
  | [x], b, h => by rw [Lib.join_one] at h; exact .inr ⟨x, by simp, h⟩
  | x :: y :: r, b, h => by
    rw [join_cons2] at h
    rcases List.mem_append.1 h with h | h
    · exact .inr ⟨x, by simp, h⟩
    · rcases List.mem_cons.1 h with h | h
      · exact .inl h
      · rcases join_mem c (y :: r) b h with h | ⟨z, hz, h⟩
        · exact .inl h
        · exact .inr ⟨z, by simp at hz ⊢; exact .inr hz, h⟩
/-- What stands in a written address. -/
def Okc (b : UInt8) : Prop := (48 ≤ b.toNat ∧ b.toNat ≤ 57) ∨ (97 ≤ b.toNat ∧ b.toNat ≤ 102)
theorem gap_mem (us : List Nat) (b : UInt8) (h : b ∈ gapL (us.map hexL)) : b = 58 ∨ Okc b := by
  have hj : ∀ vs : List Nat, b ∈ Lib.join (vs.map hexL) [58] → b = 58 ∨ Okc b := fun vs h => by
    rcases join_mem 58 _ b h with h | ⟨x, hx, h⟩
    · exact .inl h
    · obtain ⟨u, _, rfl⟩ := List.mem_map.1 hx
      exact .inr (hexL_mem u b h)
  unfold gapL at h
  split at h
  · exact hj us h
  · rw [← List.map_take, ← List.map_drop] at h
    rcases List.mem_append.1 h with h | h
    · rcases List.mem_append.1 h with h | h
      · exact hj _ h
      · simp at h
        exact .inl h
    · exact hj _ h
theorem num_mem (bs : Nat → Int) (hb : ∀ j, 0 ≤ bs j) (k : Nat) : ∀ x ∈ numTs bs k, ∀ b ∈ x, 48 ≤ b.toNat ∧ b.toNat ≤ 57 := by
  intro x hx b hbx
  unfold numTs at hx
  obtain ⟨j, _, rfl⟩ := List.mem_map.1 hx
  unfold Lib.itoa at hbx
  rw [if_neg (by have := hb j; omega)] at hbx
  exact dec_mem _ b hbx
theorem printA_mem (a : Ad) (b : UInt8) (h : b ∈ printA a) : (if a.v6 then b = 58 else b = 46) ∨ Okc b := by
  unfold printA at h
  cases hv : a.v6 with
  | true =>
    rw [if_pos hv, grps_hex] at h
    rcases gap_mem _ b h with h | h
    · exact .inl h
    · exact .inr h
  | false =>
    rw [if_neg (by rw [hv]; simp)] at h
    rcases join_mem 46 _ b h with h | ⟨x, hx, h⟩
    · exact .inl h
    · exact .inr (.inl (num_mem (byteAt a) (fun j => (byteAt_bd a j).1) 4 x hx b h))
theorem shortL_free (l : List UInt8) (h : (46 : UInt8) ∉ l) : shortL l = none := by
  unfold shortL partsL
  rw [splitK_none 46 l h]
  rfl
theorem one_num (bs : Nat → Int) (hb : ∀ j, 0 ≤ bs j ∧ bs j < 256) (js : List Nat) : ∀ acc, bytesGo one (js.map fun j => Lib.itoa (bs j)) acc = some (acc ++ js.map bs) := by
  induction js with
  | nil => intro acc; simp [bytesGo]
  | cons j js ih =>
    intro acc
    have h := hb j
    have h1 : one (Lib.itoa (bs j)) = some [bs j] := by
      unfold one
      rw [numL_itoa 255 _ (by omega), if_pos (by omega)]
      rfl
    rw [List.map_cons, bytesGo_some h1, ih, List.append_assoc]
    rfl
theorem shortL_num (bs : Nat → Int) (hb : ∀ j, 0 ≤ bs j ∧ bs j < 256) : shortL (Lib.join (numTs bs 4) [46]) = some ((List.range 4).map bs) := by
  have hp : partsL 46 4 (Lib.join (numTs bs 4) [46]) = numTs bs 4 := partsL_join 46 _ 4 (by simp [numTs, List.range_succ]) (by rw [numTs_len]; omega) (fun x hx h => by
    have := num_mem bs (fun j => (hb j).1) 4 x hx 46 h
    simp at this)
  unfold shortL
  rw [hp, numTs_len, if_pos rfl]
  unfold numTs
  rw [one_num bs hb]
  simp
/-- WHAT IS PRINTED IS PARSED: an address. -/
theorem parse_print (a : Ad) : parseA (printA a) = some (norm a) := by
  cases hv : a.v6 with
  | true =>
    have h46 : (46 : UInt8) ∉ printA a := fun h => by
      rcases printA_mem a 46 h with h | h
      · rw [hv] at h; simp at h
      · unfold Okc at h; simp at h
    have hl : longL (printA a) = some ((List.range 16).map (byteAt a)) := by
      unfold printA
      rw [if_pos hv, grps_hex, longL_gap _ (grps_len a) (grps_lt a), flatG_grps]
    rw [parseA_long (shortL_free _ h46) hl, ← from_bytes a, hv]
    exact congrArg some (fromv_congr _ _ true (fun j hj => at0_range _ 16 j hj))
  | false =>
    have hs : shortL (printA a) = some ((List.range 4).map (byteAt a)) := by
      unfold printA
      rw [if_neg (by rw [hv]; simp), shortL_num _ (byteAt_bd a)]
    rw [parseA_short hs, ← from_bytes a, hv]
    exact congrArg some (fromv_congr _ _ false (fun j hj => at0_range _ 4 j hj))
theorem norm_parse {l : List UInt8} {a : Ad} (h : parseA l = some a) : norm a = a := by
  unfold parseA at h
  cases hs : shortL l with
  | some bs =>
    rw [hs] at h
    simp only [Option.some.injEq] at h
    rw [← h]
    unfold fromv
    exact norm_norm _
  | none =>
    rw [hs] at h
    cases hl : longL l with
    | none => rw [hl] at h; cases h
    | some bs =>
      rw [hl] at h
      simp only [Option.map_some, Option.some.injEq] at h
      rw [← h]
      unfold fromv
      exact norm_norm _
theorem byteAt_norm (a : Ad) (k : Nat) : byteAt (norm a) k = byteAt a k := by
  unfold byteAt
  rw [norm_norm]
theorem printA_norm (a : Ad) : printA (norm a) = printA a := by
  have e : byteAt (norm a) = byteAt a := funext (byteAt_norm a)
  have ev : (norm a).v6 = a.v6 := by unfold norm; cases a.v6 <;> rfl
  unfold printA
  rw [e, ev]
theorem cut1_at (c : UInt8) (x t : List UInt8) (h : c ∉ x) : Lib.cut (x ++ [c] ++ t) [c] = (x, t, true) := by
  unfold Lib.cut
  rw [show x ++ [c] ++ t = x ++ c :: t by simp, index_one_at c t x h, if_pos (by omega)]
  simp
theorem cut1_none (c : UInt8) (x : List UInt8) (h : c ∉ x) : Lib.cut x [c] = (x, [], false) := by
  unfold Lib.cut
  rw [index_one_none c x h]
  rfl
theorem slash_free (a : Ad) : (47 : UInt8) ∉ printA a := fun h => by
  rcases printA_mem a 47 h with h | h
  · cases hv : a.v6 <;> rw [hv] at h <;> simp at h
  · unfold Okc at h; simp at h
/-- A prefix, printed and parsed. -/
theorem parse_printP (p : Pf) : parseP (printP p) = if 0 ≤ p.n ∧ p.n ≤ 999 then (if psane ⟨norm p.a, p.n⟩ = true then (⟨norm p.a, p.n⟩, 0) else (pf0, 1)) else (pf0, 5) := by
  have hc : Lib.cut (printP p) [47] = (printA p.a, Lib.itoa p.n, true) := cut1_at 47 _ _ (slash_free p.a)
  have hA : parseA (Lib.cut (printP p) [47]).1 = some (norm p.a) := by rw [hc]; exact parse_print p.a
  have hG : (Lib.cut (printP p) [47]).2.2 = true := by rw [hc]
  by_cases h : 0 ≤ p.n ∧ p.n ≤ 999
  · rw [if_pos h]
    exact parseP_some hG hA (by rw [hc]; show numL 999 (Lib.itoa p.n) = _; rw [numL_itoa 999 _ (by omega), if_pos h])
  · rw [if_neg h]
    exact parseP_none3 hG hA (by rw [hc]; show numL 999 (Lib.itoa p.n) = _; rw [numL_itoa 999 _ (by omega), if_neg h])

end Go.Proofs.YtgmlpcmplglnoaaDoor
