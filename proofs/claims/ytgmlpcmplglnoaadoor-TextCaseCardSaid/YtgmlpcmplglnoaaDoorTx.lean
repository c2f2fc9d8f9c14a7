/-
  Plain facts: great and small letters are one; a zero ahead of the first group changes nothing where there is room for it; ahead of a number it is refused. No condition.
-/
import Derived.Test.YtgmlpcmplglnoaaDoorTr
namespace Go.Proofs.YtgmlpcmplglnoaaDoor
open Go.RowKit

section
variable (f : UInt8 → UInt8) (hc1 : ∀ b, f b = 46 ↔ b = 46) (hc2 : ∀ b, f b = 58 ↔ b = 58) (ho : ∀ b : UInt8, dgo ((f b).toNat : Int) = dgo (b.toNat : Int)) (hv : ∀ b : UInt8, dgv ((f b).toNat : Int) = dgv (b.toNat : Int))

theorem pref_map (c : UInt8) (hf : ∀ b, f b = c ↔ b = c) : ∀ (sub l : List UInt8), (∀ x ∈ sub, x = c) → sub.isPrefixOf (l.map f) = sub.isPrefixOf l
  | [], _, _ => by simp
  | x :: xs, [], _ => rfl
  | x :: xs, b :: l, h => by
    have hx := h x (by simp)
    have ih := pref_map c hf xs l (fun y hy => h y (by simp [hy]))
    subst hx
    have e : (x == f b) = (x == b) := by
      rw [Bool.eq_iff_iff, beq_iff_eq, beq_iff_eq]
      exact ⟨fun h => ((hf b).1 h.symm).symm, fun h => ((hf b).2 h.symm).symm⟩
    show (x == f b && xs.isPrefixOf (l.map f)) = (x == b && xs.isPrefixOf l)
    rw [e, ih]
theorem index_map (c : UInt8) (hf : ∀ b, f b = c ↔ b = c) (sub : List UInt8) (hs : ∀ x ∈ sub, x = c) : ∀ l : List UInt8, Lib.index (l.map f) sub = Lib.index l sub
  | [] => rfl
  | b :: l => by
    have ih := index_map c hf sub hs l
    have hp := pref_map f c hf sub (b :: l) hs
    have e1 : Lib.index ((b :: l).map f) sub = if sub.isPrefixOf ((b :: l).map f) then 0 else if Lib.index (l.map f) sub == -1 then -1 else Lib.index (l.map f) sub + 1 := rfl
    have e2 : Lib.index (b :: l) sub = if sub.isPrefixOf (b :: l) then 0 else if Lib.index l sub == -1 then -1 else Lib.index l sub + 1 := rfl
    rw [e1, e2, hp, ih]
theorem splitK_map (c : UInt8) (hf : ∀ b, f b = c ↔ b = c) : ∀ (k : Nat) (l : List UInt8), Lib.splitK [c] 0 k (l.map f) = (Lib.splitK [c] 0 k l).map (List.map f)
  | 0, l => rfl
  | k + 1, l => by
    have hi := index_map f c hf [c] (by simp) l
    have e : ∀ l : List UInt8, Lib.splitK [c] 0 (k + 1) l = if Lib.index l [c] == -1 then [l] else l.take ((Lib.index l [c]).toNat + 0) :: Lib.splitK [c] 0 k (l.drop ((Lib.index l [c]).toNat + [c].length)) := fun _ => rfl
    rw [e, e, hi]
    split
    · rfl
    · rw [← List.map_take, ← List.map_drop, splitK_map c hf k, List.map_cons]
theorem partsL_map (c : UInt8) (hf : ∀ b, f b = c ↔ b = c) (n : Nat) (l : List UInt8) : partsL c n (l.map f) = (partsL c n l).map (List.map f) := by
  unfold partsL
  rw [List.length_map, splitK_map f c hf]
theorem cut_map (l : List UInt8) (hc2 : ∀ b, f b = 58 ↔ b = 58) : Lib.cut (l.map f) [58, 58] = ((Lib.cut l [58, 58]).1.map f, (Lib.cut l [58, 58]).2.1.map f, (Lib.cut l [58, 58]).2.2) := by
  unfold Lib.cut
  rw [index_map f 58 hc2 [58, 58] (by simp) l]
  split
  · simp only [List.map_take, List.map_drop]
  · rfl
include ho hv in
theorem numGo_map (most : Int) : ∀ (l : List UInt8) (i : Nat) (n : Int), numGo most (l.map f) i n = numGo most l i n
  | [], _, _ => rfl
  | b :: l, i, n => by
    rw [List.map_cons, numGo_cons, numGo_cons, ho, hv, numGo_map most l]
include ho hv in
theorem grpGo_map : ∀ (l : List UInt8) (n : Int), grpGo (l.map f) n = grpGo l n
  | [], _ => rfl
  | b :: l, n => by
    rw [List.map_cons, grpGo_cons, grpGo_cons, ho, hv, grpGo_map l]
include ho hv in
theorem one_map (p : List UInt8) : one (p.map f) = one p := by
  unfold one numL
  rw [numGo_map f ho hv]
  simp
include ho hv in
theorem two_map (p : List UInt8) : two (p.map f) = two p := by
  unfold two grpL
  rw [grpGo_map f ho hv, List.length_map]
  simp
theorem bytesGo_map (g : List UInt8 → Option (List Int)) (hg : ∀ p : List UInt8, g (p.map f) = g p) : ∀ (ps : List (List UInt8)) (acc : List Int), bytesGo g (ps.map (List.map f)) acc = bytesGo g ps acc
  | [], _ => rfl
  | p :: ps, acc => by
    rw [List.map_cons, bytesGo_cons, bytesGo_cons, hg]
    cases g p with
    | none => rfl
    | some bs => exact bytesGo_map g hg ps _
include hc1 ho hv in
theorem shortL_map (l : List UInt8) : shortL (l.map f) = shortL l := by
  unfold shortL
  rw [partsL_map f 46 hc1, List.length_map, bytesGo_map f one (one_map f ho hv)]
include hc2 ho hv in
theorem grsL_map (l : List UInt8) : grsL (l.map f) = grsL l := by
  unfold grsL
  rw [partsL_map f 58 hc2, bytesGo_map f two (two_map f ho hv)]
  simp
include hc2 ho hv in
theorem longL_map (l : List UInt8) : longL (l.map f) = longL l := by
  unfold longL
  rw [cut_map f l hc2]
  simp only [grsL_map f hc2 ho hv]
include hc1 hc2 ho hv in
theorem parseA_map (l : List UInt8) : parseA (l.map f) = parseA l := by
  unfold parseA
  rw [shortL_map f hc1 ho hv, longL_map f hc2 ho hv]
end

/-- A small letter as the great one. -/
def upB (b : UInt8) : UInt8 := if 97 ≤ b.toNat ∧ b.toNat ≤ 102 then UInt8.ofNat (b.toNat - 32) else b
theorem upB_nat (b : UInt8) : (upB b).toNat = if 97 ≤ b.toNat ∧ b.toNat ≤ 102 then b.toNat - 32 else b.toNat := by
  unfold upB
  split
  · rw [UInt8.toNat_ofNat']
    omega
  · rfl
theorem upB_eq (c : UInt8) (h1 : ¬ (97 ≤ c.toNat ∧ c.toNat ≤ 102)) (h2 : ¬ (65 ≤ c.toNat ∧ c.toNat ≤ 70)) (b : UInt8) : upB b = c ↔ b = c := by
  have hn := upB_nat b
  constructor
  · intro h
    rw [h] at hn
    apply UInt8.toNat_inj.1
    split at hn <;> omega
  · intro h
    subst h
    unfold upB
    rw [if_neg h1]
theorem upB_o (b : UInt8) : dgo ((upB b).toNat : Int) = dgo (b.toNat : Int) := by
  rw [upB_nat]
  unfold dgo
  split
  · rw [Bool.eq_iff_iff]
    simp only [Bool.or_eq_true, decide_eq_true_eq]
    omega
  · rfl
theorem upB_v (b : UInt8) : dgv ((upB b).toNat : Int) = dgv (b.toNat : Int) := by
  rw [upB_nat]
  by_cases h : 97 ≤ b.toNat ∧ b.toNat ≤ 102
  · rw [if_pos h]
    unfold dgv
    rw [if_neg (by omega), if_neg (by omega), if_pos (by omega), if_neg (by omega), if_pos (by omega)]
    omega
  · rw [if_neg h]
/-- Great and small letters are one. -/
theorem parse_upper (l : List UInt8) : parseA (l.map upB) = parseA l :=
  parseA_map upB (upB_eq 46 (by decide) (by decide)) (upB_eq 58 (by decide) (by decide)) upB_o upB_v l

theorem dg48 : dgo (((48 : UInt8).toNat : Nat) : Int) = true ∧ dgv (((48 : UInt8).toNat : Nat) : Int) = 0 := by decide
/-- A zero ahead of a number is refused. -/
theorem zero_four (a : Ad) (hv : a.v6 = false) : parseA (48 :: printA a) = none := by
  have hp : printA a = Lib.join (numTs (byteAt a) 4) [46] := if_neg (by rw [hv]; simp)
  obtain ⟨x0, x1, x2, x3, hx⟩ : ∃ x0 x1 x2 x3, numTs (byteAt a) 4 = [x0, x1, x2, x3] := ⟨_, _, _, _, rfl⟩
  have hx0 : x0 = Lib.itoa (byteAt a 0) := by
    have := congrArg (·[0]?) hx
    simpa [numTs, List.range_succ] using this.symm
  have hmem := num_mem (byteAt a) (fun j => (byteAt_bd a j).1) 4
  rw [hx] at hmem
  have hx0ne : x0 ≠ [] := by
    rw [hx0]
    unfold Lib.itoa
    rw [if_neg (by have := byteAt_bd a 0; omega)]
    exact dec_ne _
  have hj : 48 :: printA a = Lib.join ((48 :: x0) :: [x1, x2, x3]) [46] := by
    rw [hp, hx, join_cons2, join_cons2]
    rfl
  have hfree : ∀ x ∈ (48 :: x0) :: [x1, x2, x3], (46 : UInt8) ∉ x := by
    intro x hxm hm
    rcases List.mem_cons.1 hxm with rfl | hxm
    · rcases List.mem_cons.1 hm with h | h
      · cases h
      · have := hmem x0 (by simp) 46 h
        simp at this
    · have := hmem x (by simp at hxm ⊢; exact .inr hxm) 46 hm
      simp at this
  have h58 : (58 : UInt8) ∉ 48 :: printA a := by
    intro hm
    rcases List.mem_cons.1 hm with h | h
    · cases h
    · rcases printA_mem a 58 h with h | h
      · rw [hv] at h; simp at h
      · unfold Okc at h; simp at h
  refine parseA_none ?_ (longL_none1 ?_)
  · unfold shortL
    rw [hj, partsL_join 46 _ 4 (by simp) (by simp) hfree]
    rw [if_pos (show [48 :: x0, x1, x2, x3].length = 4 from rfl)]
    refine bytesGo_none ?_
    unfold one numL
    rw [if_neg (by simp), numGo_cons, dg48.1, dg48.2, if_pos (by decide)]
    cases x0 with
    | nil => exact absurd rfl hx0ne
    | cons b t =>
      rw [numGo_cons, if_neg (by simp)]
      rfl
  · have hi := idx2_free 58 [] (48 :: printA a) h58
    rw [List.append_nil, idx2_nil] at hi
    have hc : Lib.cut (48 :: printA a) [58, 58] = (48 :: printA a, [], false) := by
      unfold Lib.cut
      rw [hi]
      rfl
    rw [hc]
    show grsL (48 :: printA a) = none
    unfold grsL partsL
    rw [if_neg (by simp), splitK_none 58 _ h58]
    refine bytesGo_none ?_
    unfold two grpL
    have hlen : 4 < (48 :: printA a).length := by
      rw [hj]
      have := join_ge 46 ((48 :: x0) :: [x1, x2, x3])
      have h2 := Lib.join_length (48 :: x0) [x1, x2, x3] [46]
      have h3 : Lib.lens ((48 :: x0) :: [x1, x2, x3]) ≥ (48 :: x0).length := by simp [Lib.lens]
      have h4 : x0.length ≠ 0 := fun e => hx0ne (List.eq_nil_of_length_eq_zero e)
      simp only [List.length_cons, List.length_nil] at h2 h3
      omega
    rw [if_pos (.inr hlen)]
    rfl

theorem two_zero (u : Nat) (hu : u < 65536) : two (48 :: hexL u) = if (hexL u).length < 4 then some [(u : Int) / 256, (u : Int) % 256] else none := by
  have h := grpL_hexL u hu
  have hl := hexL_le u
  have hg : grpGo (hexL u) 0 = some (u : Int) := by
    unfold grpL at h
    rw [if_neg (fun e => by
      rcases e with e | e
      · exact hexL_ne u e
      · omega)] at h
    exact h
  unfold two grpL
  by_cases h4 : (hexL u).length < 4
  · rw [if_pos h4, if_neg (fun e => by
      rcases e with e | e
      · cases e
      · simp only [List.length_cons] at e; omega), grpGo_cons, dg48.1, dg48.2, if_pos rfl]
    show Option.map _ (grpGo (hexL u) 0) = _
    rw [hg]
    rfl
  · rw [if_neg h4, if_pos (.inr (by simp only [List.length_cons]; omega))]
    rfl
theorem zero_parts (u : Nat) (us : List Nat) : ∀ x ∈ (48 :: hexL u) :: us.map hexL, x ≠ [] ∧ (58 : UInt8) ∉ x := by
  intro x hx
  rcases List.mem_cons.1 hx with rfl | hx
  · refine ⟨by simp, fun h => ?_⟩
    rcases List.mem_cons.1 h with h | h
    · cases h
    · rcases hexL_mem u 58 h with h | h <;> simp at h
  · exact hex_parts us 58 (by decide) x hx
theorem grs_zero (u : Nat) (us : List Nat) (hn : us.length ≤ 7) (hu : ∀ v ∈ u :: us, v < 65536) : grsL (Lib.join ((48 :: hexL u) :: us.map hexL) [58]) = if (hexL u).length < 4 then some (flatG (u :: us)) else none := by
  have hp := zero_parts u us
  unfold grsL
  rw [if_neg (join_ne _ 58 (by simp) (fun x hx => (hp x hx).1)), partsL_join 58 _ 8 (by simp) (by simp; omega) (fun x hx => (hp x hx).2)]
  have h2 := two_zero u (hu u (by simp))
  by_cases h4 : (hexL u).length < 4
  · rw [if_pos h4] at h2 ⊢
    rw [bytesGo_some h2, two_hex us (fun v hv => hu v (by simp [hv]))]
    rfl
  · rw [if_neg h4] at h2 ⊢
    exact bytesGo_none h2
theorem longL_congr (l l' : List UInt8) (h1 : grsL (Lib.cut l [58, 58]).1 = grsL (Lib.cut l' [58, 58]).1) (h2 : grsL (Lib.cut l [58, 58]).2.1 = grsL (Lib.cut l' [58, 58]).2.1) (h3 : (Lib.cut l [58, 58]).2.2 = (Lib.cut l' [58, 58]).2.2) : longL l = longL l' := by
  unfold longL
  rw [h1, h2, h3]
/-- A zero ahead of the first group. -/
theorem zero_long (us : List Nat) (hn : us.length = 8) (hu : ∀ u ∈ us, u < 65536) : ∃ h r, gapL (us.map hexL) = h ++ 58 :: r ∧ (58 : UInt8) ∉ h ∧ longL (48 :: gapL (us.map hexL)) = if h.length < 4 then some (flatG us) else none := by
  have hall := longL_gap us hn hu
  have hp := hex_parts us 58 (by decide)
  obtain ⟨p, hpp⟩ : ∃ p, p = bestGo (zl (us.map hexL)) 0 (0, 0) := ⟨_, rfl⟩
  have hbd := bestGo_bd (zl (us.map hexL)) 0 (0, 0) (Nat.le_refl _) (Nat.zero_le _)
  have hzl : (zl (us.map hexL)).length = 8 := by simp [zl, hn]
  rw [← hpp] at hbd
  unfold gapL at hall ⊢
  rw [← hpp] at hall ⊢
  obtain ⟨f, t⟩ := p
  simp only at hbd hall ⊢
  by_cases h2 : t - f < 2
  · rw [if_pos h2] at hall ⊢
    obtain ⟨u0, u1, ut, rfl⟩ : ∃ u0 u1 ut, us = u0 :: u1 :: ut := by
      match us, hn with
      | u0 :: u1 :: ut, _ => exact ⟨u0, u1, ut, rfl⟩
    have hz := grs_zero u0 (u1 :: ut) (by simp at hn ⊢; omega) hu
    have hj : 48 :: Lib.join ((u0 :: u1 :: ut).map hexL) [58] = Lib.join ((48 :: hexL u0) :: (u1 :: ut).map hexL) [58] := by
      simp only [List.map_cons]
      rw [join_cons2, join_cons2]
      rfl
    have hcz := cut2_join _ (zero_parts u0 (u1 :: ut))
    have hco := cut2_join _ hp
    refine ⟨hexL u0, Lib.join ((u1 :: ut).map hexL) [58], by simp only [List.map_cons]; rw [join_cons2], (hp (hexL u0) (by simp)).2, ?_⟩
    rw [hj]
    by_cases h4 : (hexL u0).length < 4
    · rw [if_pos h4] at hz ⊢
      rw [← hall]
      refine longL_congr _ _ ?_ ?_ ?_
      · rw [hcz, hco, hz]
        exact (grsL_hex _ (by omega) hu).symm
      · rw [hcz, hco]
      · rw [hcz, hco]
    · rw [if_neg h4] at hz ⊢
      exact longL_none1 (by rw [hcz]; exact hz)
  · rw [if_neg h2] at hall ⊢
    rw [← List.map_take, ← List.map_drop] at hall ⊢
    have lf : (us.take f).length = f := by simp; omega
    have hut : ∀ u ∈ us.take f, u < 65536 := fun u h => hu u (List.mem_of_mem_take h)
    have hub : ∀ u ∈ us.drop t, u < 65536 := fun u h => hu u (List.mem_of_mem_drop h)
    have lt : (us.drop t).length = 8 - t := by simp; omega
    have hgb := grsL_hex (us.drop t) (by omega) hub
    have hga := grsL_hex (us.take f) (by omega) hut
    have hco := cut2_gap ((us.take f).map hexL) (Lib.join ((us.drop t).map hexL) [58]) (hex_parts _ 58 (by decide))
    generalize us.take f = A at *
    generalize us.drop t = B at *
    cases A with
    | nil =>
      have hf : f = 0 := by simpa using lf.symm
      subst hf
      refine ⟨[], 58 :: Lib.join (B.map hexL) [58], rfl, by simp, ?_⟩
      rw [if_pos (by simp)]
      have hcz := cut2_gap [[48]] (Lib.join (B.map hexL) [58]) (by intro x hx; rw [List.mem_singleton.1 hx]; decide)
      have hl : 48 :: (Lib.join (([] : List Nat).map hexL) [58] ++ [58, 58] ++ Lib.join (B.map hexL) [58]) = Lib.join [[48]] [58] ++ [58, 58] ++ Lib.join (B.map hexL) [58] := by
        rw [Lib.join_one]
        rfl
      rw [hl, ← hall]
      have ha0 : grsL (Lib.cut (Lib.join [[48]] [58] ++ [58, 58] ++ Lib.join (B.map hexL) [58]) [58, 58]).1 = some [0, 0] := by rw [hcz, Lib.join_one]; show grsL [48] = some [0, 0]; decide
      have hb0 : grsL (Lib.cut (Lib.join [[48]] [58] ++ [58, 58] ++ Lib.join (B.map hexL) [58]) [58, 58]).2.1 = some (flatG B) := by rw [hcz]; exact hgb
      rw [longL_some ha0 hb0, hcz, longL_some (by rw [hco]; exact hga) (by rw [hco]; exact hgb), hco, flatG_len, lt]
      rw [if_pos ⟨by simp; omega, by simp; omega⟩, if_pos ⟨by simp [flatG]; omega, by simp [flatG]; omega⟩]
      congr 1
      show [0, 0] ++ List.replicate (16 - 2 - 2 * (8 - t)) 0 ++ flatG B = [] ++ List.replicate (16 - 0 - 2 * (8 - t)) 0 ++ flatG B
      rw [show 16 - 0 - 2 * (8 - t) = (16 - 2 - 2 * (8 - t)) + 1 + 1 by omega, List.replicate_succ, List.replicate_succ]
      rfl
    | cons u0 A =>
      simp only [List.length_cons] at lf
      have hz := grs_zero u0 A (by omega) hut
      have hcz := cut2_gap ((48 :: hexL u0) :: A.map hexL) (Lib.join (B.map hexL) [58]) (zero_parts u0 A)
      have hj : 48 :: (Lib.join ((u0 :: A).map hexL) [58] ++ [58, 58] ++ Lib.join (B.map hexL) [58]) = Lib.join ((48 :: hexL u0) :: A.map hexL) [58] ++ [58, 58] ++ Lib.join (B.map hexL) [58] := by
        rw [List.map_cons, Lib.join_cons, Lib.join_cons]
        rfl
      refine ⟨hexL u0, (Lib.join ((u0 :: A).map hexL) [58] ++ [58, 58] ++ Lib.join (B.map hexL) [58]).drop ((hexL u0).length + 1), ?_, ?_, ?_⟩
      · cases A with
        | nil =>
          rw [List.map_cons, List.map_nil, Lib.join_one]
          simp
        | cons u1 A =>
          simp only [List.map_cons]
          rw [join_cons2]
          simp
      · intro h
        rcases hexL_mem u0 58 h with h | h <;> simp at h
      · rw [hj]
        by_cases h4 : (hexL u0).length < 4
        · rw [if_pos h4] at hz ⊢
          rw [← hall]
          refine longL_congr _ _ ?_ ?_ ?_
          · rw [hcz, hco, hz]
            exact hga.symm
          · rw [hcz, hco]
          · rw [hcz, hco]
        · rw [if_neg h4] at hz ⊢
          exact longL_none1 (by rw [hcz]; exact hz)
theorem zero_six (a : Ad) (hv : a.v6 = true) : ∃ h r, printA a = h ++ 58 :: r ∧ (58 : UInt8) ∉ h ∧ parseA (48 :: printA a) = if h.length < 4 then some (norm a) else none := by
  obtain ⟨h, r, h1, h2, h3⟩ := zero_long (grps a) (grps_len a) (grps_lt a)
  have hp : printA a = gapL ((grps a).map hexL) := by
    unfold printA
    rw [if_pos hv, grps_hex]
  have h46 : (46 : UInt8) ∉ 48 :: printA a := fun hm => by
    rcases List.mem_cons.1 hm with h | h
    · cases h
    · rcases printA_mem a 46 h with h | h
      · rw [hv] at h; simp at h
      · unfold Okc at h; simp at h
  refine ⟨h, r, by rw [hp]; exact h1, h2, ?_⟩
  rw [← hp] at h3
  by_cases h4 : h.length < 4
  · rw [if_pos h4] at h3 ⊢
    rw [parseA_long (shortL_free _ h46) h3, ← from_bytes a, hv, flatG_grps]
    exact congrArg some (fromv_congr _ _ true (fun j hj => at0_range _ 16 j hj))
  · rw [if_neg h4] at h3 ⊢
    exact parseA_none (shortL_free _ h46) h3

end Go.Proofs.YtgmlpcmplglnoaaDoor
