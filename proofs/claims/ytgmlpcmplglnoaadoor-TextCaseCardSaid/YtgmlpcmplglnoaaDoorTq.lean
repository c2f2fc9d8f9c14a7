/-
  Plain facts on written addresses: an address as it is written is read as that address. No condition.
-/
import Derived.Test.YtgmlpcmplglnoaaDoorTm
import Derived.Test.YtgmlpcmplglnoaaDoorMathF
namespace Go.Proofs.YtgmlpcmplglnoaaDoor
open Go.RowKit

theorem runL_true : ∀ (Z : List Bool) (j : Nat), j < runL Z → Z[j]? = some true
  | [], j, h => by simp [runL] at h
  | false :: Z, j, h => by simp [runL] at h
  | true :: Z, 0, _ => rfl
  | true :: Z, j + 1, h => by
    have h1 : runL (true :: Z) = runL Z + 1 := rfl
    rw [h1] at h
    simpa using runL_true Z j (by omega)
theorem bestGo_run (Z0 : List Bool) : ∀ (Z : List Bool) (i : Nat) (p : Nat × Nat), Z0.drop i = Z → (∀ j, p.1 ≤ j → j < p.2 → Z0[j]? = some true) → ∀ j, (bestGo Z i p).1 ≤ j → j < (bestGo Z i p).2 → Z0[j]? = some true
  | [], _, p, _, h => h
  | b :: Z, i, p, hZ, h => by
    have e : bestGo (b :: Z) i p = bestGo Z (i + 1) (if p.2 - p.1 < runL (b :: Z) then (i, i + runL (b :: Z)) else p) := rfl
    rw [e]
    have hd : Z0.drop (i + 1) = Z := by
      rw [← List.drop_drop, hZ]
      rfl
    refine bestGo_run Z0 Z (i + 1) _ hd ?_
    by_cases hc : p.2 - p.1 < runL (b :: Z)
    · rw [if_pos hc]
      intro j h1 h2
      have h3 : i ≤ j := h1
      have h4 : j < i + runL (b :: Z) := h2
      have := runL_true (b :: Z) (j - i) (by omega)
      rw [← hZ, List.getElem?_drop, show i + (j - i) = j by omega] at this
      exact this
    · rw [if_neg hc]
      exact h

/-- Moved on by so much. -/
def shiftI (n : Nat) (i : Int) : Int := if i == -1 then -1 else i + n
theorem shiftI_two (m n : Nat) (i : Int) (h : -1 ≤ i) : shiftI n (shiftI m i) = shiftI (m + n) i := by
  by_cases h1 : i = -1
  · subst h1
    rfl
  · have e1 : ∀ k, shiftI k i = i + k := fun k => if_neg (by simpa using h1)
    have e2 : shiftI n (i + m) = i + m + n := if_neg (by simp; omega)
    rw [e1, e1, e2]
    omega
theorem shiftI_zero (i : Int) : shiftI 0 i = i := by
  unfold shiftI
  by_cases h1 : i = -1
  · subst h1
    rfl
  · rw [if_neg (by simpa using h1)]
    simp
theorem idx2_cons (c b : UInt8) (l : List UInt8) (h : [c, c].isPrefixOf (b :: l) = false) : Lib.index (b :: l) [c, c] = shiftI 1 (Lib.index l [c, c]) := by
  have e : Lib.index (b :: l) [c, c] = if [c, c].isPrefixOf (b :: l) then 0 else if Lib.index l [c, c] == -1 then -1 else Lib.index l [c, c] + 1 := rfl
  rw [e, if_neg (by rw [h]; simp)]
  rfl
theorem idx2_free (c : UInt8) (y : List UInt8) : ∀ x : List UInt8, c ∉ x → Lib.index (x ++ y) [c, c] = shiftI x.length (Lib.index y [c, c])
  | [], _ => (shiftI_zero _).symm
  | b :: l, h => by
    have h1 : ¬ c = b := fun e => h (by simp [e])
    have h2 := idx2_free c y l (fun e => h (by simp [e]))
    show Lib.index (b :: (l ++ y)) [c, c] = _
    rw [idx2_cons c b _ (by simp [List.isPrefixOf, h1]), h2, shiftI_two _ _ _ (Lib.index_ge _ _), List.length_cons]
theorem idx2_one (c d : UInt8) (h : ¬ c = d) (z : List UInt8) : Lib.index (c :: d :: z) [c, c] = shiftI 1 (Lib.index (d :: z) [c, c]) :=
  idx2_cons c c _ (by simp [List.isPrefixOf, h])
theorem idx2_here (c : UInt8) (r : List UInt8) : Lib.index (c :: c :: r) [c, c] = 0 := by
  have e : Lib.index (c :: c :: r) [c, c] = if [c, c].isPrefixOf (c :: c :: r) then 0 else if Lib.index (c :: r) [c, c] == -1 then -1 else Lib.index (c :: r) [c, c] + 1 := rfl
  rw [e, if_pos (by simp [List.isPrefixOf])]
theorem idx2_nil (c : UInt8) : Lib.index [] [c, c] = -1 := rfl
theorem join_head (c : UInt8) (y : List UInt8) (r : List (List UInt8)) (hy : y ≠ []) (hc : c ∉ y) : ∃ d z, Lib.join (y :: r) [c] = d :: z ∧ ¬ c = d := by
  cases y with
  | nil => exact absurd rfl hy
  | cons d z =>
    refine ⟨d, z ++ Lib.joinTail [c] r, ?_, fun e => hc (by simp [e])⟩
    rw [Lib.join_cons]
    rfl
theorem idx2_join (c : UInt8) : ∀ xs : List (List UInt8), (∀ x ∈ xs, x ≠ [] ∧ c ∉ x) → Lib.index (Lib.join xs [c]) [c, c] = -1
  | [], _ => rfl
  | [x], h => by
    rw [Lib.join_one]
    have := idx2_free c [] x (h x (by simp)).2
    rw [List.append_nil] at this
    rw [this]
    rfl
  | x :: y :: r, h => by
    obtain ⟨d, z, e, hd⟩ := join_head c y r (h y (by simp)).1 (h y (by simp)).2
    have ih := idx2_join c (y :: r) (fun w hw => h w (by simp at hw ⊢; exact .inr hw))
    rw [join_cons2, e, idx2_free c _ x (h x (by simp)).2, idx2_one c d hd, ← e, ih]
    rfl
theorem idx2_gap (c : UInt8) (t : List UInt8) : ∀ xs : List (List UInt8), (∀ x ∈ xs, x ≠ [] ∧ c ∉ x) → Lib.index (Lib.join xs [c] ++ c :: c :: t) [c, c] = (Lib.join xs [c]).length
  | [], _ => idx2_here c t
  | [x], h => by
    rw [Lib.join_one, idx2_free c _ x (h x (by simp)).2, idx2_here]
    unfold shiftI
    simp
  | x :: y :: r, h => by
    obtain ⟨d, z, e, hd⟩ := join_head c y r (h y (by simp)).1 (h y (by simp)).2
    have ih := idx2_gap c t (y :: r) (fun w hw => h w (by simp at hw ⊢; exact .inr hw))
    rw [join_cons2, List.append_assoc, List.cons_append]
    rw [e] at ih ⊢
    rw [idx2_free c _ x (h x (by simp)).2, List.cons_append, idx2_one c d hd, ← List.cons_append, ih, shiftI_two _ _ _ (by omega)]
    unfold shiftI
    rw [if_neg (by simp; omega)]
    simp only [List.length_append, List.length_cons]
    omega
theorem cut2_join (xs : List (List UInt8)) (h : ∀ x ∈ xs, x ≠ [] ∧ (58 : UInt8) ∉ x) : Lib.cut (Lib.join xs [58]) [58, 58] = (Lib.join xs [58], [], false) := by
  unfold Lib.cut
  rw [idx2_join 58 xs h]
  rfl
theorem cut2_gap (xs : List (List UInt8)) (t : List UInt8) (h : ∀ x ∈ xs, x ≠ [] ∧ (58 : UInt8) ∉ x) : Lib.cut (Lib.join xs [58] ++ [58, 58] ++ t) [58, 58] = (Lib.join xs [58], t, true) := by
  unfold Lib.cut
  have e := idx2_gap 58 t xs h
  rw [show Lib.join xs [58] ++ [58, 58] ++ t = Lib.join xs [58] ++ 58 :: 58 :: t by simp]
  rw [e, if_pos (by omega)]
  simp

/-- The bytes of groups. -/
def flatG (us : List Nat) : List Int := us.flatMap fun u : Nat => [(u : Int) / 256, (u : Int) % 256]
theorem flatG_append (a b : List Nat) : flatG (a ++ b) = flatG a ++ flatG b := List.flatMap_append
theorem flatG_len (us : List Nat) : (flatG us).length = 2 * us.length := by
  induction us with
  | nil => rfl
  | cons u us ih =>
    have e : flatG (u :: us) = [(u : Int) / 256, (u : Int) % 256] ++ flatG us := rfl
    rw [e, List.length_append, ih, List.length_cons]
    simp
    omega
theorem flatG_zero (us : List Nat) (h : ∀ u ∈ us, u = 0) : flatG us = List.replicate (2 * us.length) 0 := by
  induction us with
  | nil => rfl
  | cons u us ih =>
    have e : flatG (u :: us) = [(u : Int) / 256, (u : Int) % 256] ++ flatG us := rfl
    rw [e, ih (fun v hv => h v (by simp [hv])), h u (by simp), List.length_cons, show 2 * (us.length + 1) = 2 * us.length + 1 + 1 by omega, List.replicate_succ, List.replicate_succ]
    rfl
theorem two_hex (us : List Nat) (hu : ∀ u ∈ us, u < 65536) : ∀ acc, bytesGo two (us.map hexL) acc = some (acc ++ flatG us) := by
  induction us with
  | nil => intro acc; simp [bytesGo, flatG]
  | cons u us ih =>
    intro acc
    have h1 : two (hexL u) = some [(u : Int) / 256, (u : Int) % 256] := by
      unfold two
      rw [grpL_hexL u (hu u (by simp))]
      rfl
    rw [List.map_cons, bytesGo_some h1, ih (fun v hv => hu v (by simp [hv])), List.append_assoc]
    rfl
theorem hex_parts (us : List Nat) (c : UInt8) (hc : ¬ (48 ≤ c.toNat ∧ c.toNat ≤ 57) ∧ ¬ (97 ≤ c.toNat ∧ c.toNat ≤ 102)) : ∀ x ∈ us.map hexL, x ≠ [] ∧ c ∉ x := by
  intro x hx
  obtain ⟨u, _, rfl⟩ := List.mem_map.1 hx
  refine ⟨hexL_ne u, fun h => ?_⟩
  rcases hexL_mem u c h with h1 | h1
  · exact hc.1 h1
  · exact hc.2 h1
theorem join_ne (xs : List (List UInt8)) (c : UInt8) (h0 : xs ≠ []) (h : ∀ x ∈ xs, x ≠ []) : Lib.join xs [c] ≠ [] := by
  cases xs with
  | nil => exact absurd rfl h0
  | cons x r =>
    rw [Lib.join_cons]
    intro e
    exact h x (by simp) (List.append_eq_nil_iff.1 e).1
theorem grsL_hex (us : List Nat) (hn : us.length ≤ 8) (hu : ∀ u ∈ us, u < 65536) : grsL (Lib.join (us.map hexL) [58]) = some (flatG us) := by
  by_cases h0 : us = []
  · subst h0
    rfl
  · have hp := hex_parts us 58 (by decide)
    have h1 : us.map hexL ≠ [] := by simpa using h0
    unfold grsL
    rw [if_neg (join_ne _ 58 h1 (fun x hx => (hp x hx).1)), partsL_join 58 _ 8 h1 (by simp; omega) (fun x hx => (hp x hx).2), two_hex us hu]
    simp
theorem isZ_hex (u : Nat) (hu : u < 65536) (h : isZ (hexL u) = true) : u = 0 := by
  unfold isZ at h
  have e : hexL u = [48] := by simpa using h
  have := grpL_hexL u hu
  rw [e] at this
  have h0 : grpL [48] = some 0 := by decide
  rw [h0] at this
  simp at this
  omega

/-- Groups as they are written are read again. -/
theorem longL_gap (us : List Nat) (hn : us.length = 8) (hu : ∀ u ∈ us, u < 65536) : longL (gapL (us.map hexL)) = some (flatG us) := by
  have hp := hex_parts us 58 (by decide)
  obtain ⟨p, hpp⟩ : ∃ p, p = bestGo (zl (us.map hexL)) 0 (0, 0) := ⟨_, rfl⟩
  have hbd := bestGo_bd (zl (us.map hexL)) 0 (0, 0) (Nat.le_refl _) (Nat.zero_le _)
  have hrun := bestGo_run (zl (us.map hexL)) (zl (us.map hexL)) 0 (0, 0) rfl (fun j h1 h2 => by simp at h2)
  have hzl : (zl (us.map hexL)).length = 8 := by simp [zl, hn]
  rw [← hpp] at hbd hrun
  unfold gapL
  rw [← hpp]
  obtain ⟨f, t⟩ := p
  simp only at hbd hrun ⊢
  by_cases h2 : t - f < 2
  · rw [if_pos h2]
    have hc := cut2_join _ hp
    have h1 : grsL (Lib.cut (Lib.join (us.map hexL) [58]) [58, 58]).1 = some (flatG us) := by rw [hc]; exact grsL_hex us (by omega) hu
    have h3 : grsL (Lib.cut (Lib.join (us.map hexL) [58]) [58, 58]).2.1 = some [] := by rw [hc]; rfl
    rw [longL_some h1 h3, hc, if_pos ⟨by rw [flatG_len]; simp; omega, by rw [flatG_len, hn]; rfl⟩]
    have : 16 - (flatG us).length - ([] : List Int).length = 0 := by rw [flatG_len]; omega
    rw [this]
    simp
  · rw [if_neg h2]
    rw [← List.map_take, ← List.map_drop]
    have hpt : ∀ x ∈ (us.take f).map hexL, x ≠ [] ∧ (58 : UInt8) ∉ x := hex_parts _ 58 (by decide)
    have hc := cut2_gap ((us.take f).map hexL) (Lib.join ((us.drop t).map hexL) [58]) hpt
    have lf : (us.take f).length = f := by simp; omega
    have lt : (us.drop t).length = 8 - t := by simp; omega
    have h1 : grsL (Lib.cut (Lib.join ((us.take f).map hexL) [58] ++ [58, 58] ++ Lib.join ((us.drop t).map hexL) [58]) [58, 58]).1 = some (flatG (us.take f)) := by
      rw [hc]; exact grsL_hex _ (by omega) (fun u h => hu u (List.mem_of_mem_take h))
    have h3 : grsL (Lib.cut (Lib.join ((us.take f).map hexL) [58] ++ [58, 58] ++ Lib.join ((us.drop t).map hexL) [58]) [58, 58]).2.1 = some (flatG (us.drop t)) := by
      rw [hc]; exact grsL_hex _ (by omega) (fun u h => hu u (List.mem_of_mem_drop h))
    rw [longL_some h1 h3, hc, flatG_len, flatG_len, lf, lt, if_pos ⟨by omega, by simp; omega⟩]
    congr 1
    have hmid : flatG ((us.drop f).take (t - f)) = List.replicate (16 - 2 * f - 2 * (8 - t)) 0 := by
      rw [flatG_zero]
      · congr 1
        simp
        omega
      · intro u hmem
        obtain ⟨j, hj, e⟩ := List.getElem_of_mem hmem
        simp only [List.length_take, List.length_drop] at hj
        have hz := hrun (f + j) (by omega) (by omega)
        unfold zl at hz
        rw [List.getElem?_map, List.getElem?_map, List.getElem?_eq_getElem (by omega)] at hz
        simp only [Option.map_some, Option.some.injEq] at hz
        have h0 := isZ_hex _ (hu _ (List.getElem_mem (by omega))) hz
        rw [← e]
        simpa using h0
    rw [← hmid, ← flatG_append, ← flatG_append]
    congr 1
    rw [List.append_assoc, show us.drop t = (us.drop f).drop (t - f) by rw [List.drop_drop]; congr 1; omega, List.take_append_drop, List.take_append_drop]

end Go.Proofs.YtgmlpcmplglnoaaDoor
