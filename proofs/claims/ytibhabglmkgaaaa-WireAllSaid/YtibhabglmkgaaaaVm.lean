/-
  Plain facts: what is put is got again; what is got is what was put; a byte less is short; routes one behind the other. No condition.
-/
import Derived.Test.YtibhabglmkgaaaaVh
namespace Go.Proofs.Ytibhabglmkgaaaa
open Go.RowKit

theorem byteAt_zero (p : Pf) (h : psane p = true) (j : Nat) (hj : need p.n ≤ j) (h16 : j < 16) : byteAt p.a j = 0 := by
  obtain ⟨_, n0, n1, hz⟩ := (psane_iff p).1 h
  obtain ⟨b0, b1⟩ := byteAt_bd p.a j
  have key : (byteAt p.a j).toNat = 0 := by
    apply Nat.eq_of_testBit_eq
    intro m
    rw [Nat.zero_testBit]
    rcases Nat.lt_or_ge m 8 with hm | hm
    · rw [byteAt_bit p.a j h16 m hm]
      refine hz _ ?_
      unfold need at hj
      omega
    · exact byte_high _ b1 m hm
  omega
theorem fHi_cong (f g : Nat → Int) : ∀ n, (∀ j, j < n → f j = g j) → fHi f n = fHi g n
  | 0, _ => rfl
  | n + 1, h => by
    unfold fHi
    rw [fHi_cong f g n (fun j hj => h j (by omega)), h n (by omega)]
theorem fLo_cong (f g : Nat → Int) : ∀ n, (∀ j, j < n → f j = g j) → fLo f n = fLo g n
  | 0, _ => rfl
  | n + 1, h => by
    unfold fLo
    rw [fLo_cong f g n (fun j hj => h j (by omega)), h n (by omega)]
theorem fromv_cong (f g : Nat → Int) (v : Bool) (h : ∀ j, j < nb v → f j = g j) : fromv f v = fromv g v := by
  unfold fromv
  rw [fHi_cong f g _ (fun j hj => h j (by unfold nb; exact hj)), fLo_cong f g _ (fun j hj => h j (by unfold nb; exact hj))]
theorem kind_eq (v : Bool) : (kindOf v == 6) = v := by cases v <;> rfl
theorem at0_map (f : Nat → Int) (k : Nat) (m : List Int) (j : Nat) (h : j < k) : at0 ((List.range k).map f ++ m) j = f j := by
  unfold at0
  rw [List.getD_eq_getElem?_getD, List.getElem?_append_left (by simpa using h)]
  simp [h]
theorem put_form (p : Pf) (h : psane p = true) (m : List Int) : putP p ++ m = kindOf p.a.v6 :: p.n :: ((List.range (need p.n)).map (byteAt p.a) ++ m) := by
  unfold putP
  rw [if_pos h]
  rfl
/-- A prefix that was put is got again, whatever stands behind. -/
theorem get_put (p : Pf) (h : psane p = true) (m : List Int) : getE (putP p ++ m) = 0 ∧ getP (putP p ++ m) = p ∧ getN (putP p ++ m) = (putP p).length := by
  obtain ⟨hnorm, n0, n1, hz⟩ := (psane_iff p).1 h
  rw [putP_len p h, put_form p h m]
  have hk := need_le _ _ n0 n1
  have hnb := nb_le p.a.v6
  generalize hL : kindOf p.a.v6 :: p.n :: ((List.range (need p.n)).map (byteAt p.a) ++ m) = L
  have e0 : at0 L 0 = kindOf p.a.v6 := by subst hL; rfl
  have e1 : at0 L 1 = p.n := by subst hL; rfl
  have e2 : L.drop 2 = (List.range (need p.n)).map (byteAt p.a) ++ m := by subst hL; rfl
  have e3 : 2 ≤ L.length := by subst hL; simp
  have eh : headE L = 0 := by
    unfold headE
    rw [if_neg (by omega), e0, kind_eq, e1, if_neg (by unfold kindOf; cases p.a.v6 <;> simp), if_neg (by omega)]
  have ed : digP p.a.v6 p.n (L.drop 2) = p := by
    unfold digP
    have : fromv (firstK (L.drop 2) (need p.n)) p.a.v6 = p.a := by
      rw [fromv_cong _ (byteAt p.a) p.a.v6, from_bytes, hnorm]
      intro j hj
      unfold firstK
      split
      · rename_i hjk
        rw [e2, at0_map _ _ _ _ hjk]
      · exact (byteAt_zero p h j (by omega) (by omega)).symm
    rw [this]
  have eD : digE p.a.v6 p.n (L.drop 2) = 0 := by
    unfold digE
    rw [ed, if_pos h, if_neg]
    rw [e2]
    simp
  have eg : getE L = 0 := by
    unfold getE
    rw [if_pos eh, e0, kind_eq, e1, eD]
  refine ⟨eg, ?_, ?_⟩
  · unfold getP
    rw [if_pos eg, e0, kind_eq, e1, ed]
  · unfold getN
    rw [if_pos eg, e1]
theorem get_parts {l : List Int} (he : getE l = 0) : headE l = 0 ∧ digE (at0 l 0 == 6) (at0 l 1) (l.drop 2) = 0 := by
  have hh : headE l = 0 := by
    by_cases hh : headE l = 0
    · exact hh
    · unfold getE at he
      rw [if_neg hh] at he
      exact absurd he hh
  refine ⟨hh, ?_⟩
  unfold getE at he
  rw [if_pos hh] at he
  exact he
theorem dig_parts {v : Bool} {n : Int} {l : List Int} (h : digE v n l = 0) : need n ≤ l.length ∧ psane (digP v n l) = true := by
  unfold digE at h
  split at h
  · cases h
  · split at h
    · exact ⟨by omega, by assumption⟩
    · cases h
theorem head_kind {l : List Int} (he : headE l = 0) : kindOf (at0 l 0 == 6) = at0 l 0 := by
  unfold headE at he
  split at he
  · cases he
  · split at he
    · cases he
    · rename_i h
      rcases (show at0 l 0 = 4 ∨ at0 l 0 = 6 by omega) with e | e <;> rw [e] <;> rfl
theorem eq_of_at0 {l m : List Int} (hl : l.length = m.length) (h : ∀ j, j < l.length → at0 l j = at0 m j) : l = m := by
  refine List.ext_getElem hl fun j h1 h2 => ?_
  have := h j h1
  unfold at0 at this
  rw [List.getD_eq_getElem?_getD, List.getD_eq_getElem?_getD, List.getElem?_eq_getElem h1, List.getElem?_eq_getElem h2] at this
  exact this
/-- What is got may be, and has these bytes. -/
theorem put_get {l : List Int} (hb : ∀ x ∈ l, 0 ≤ x ∧ x < 256) (he : getE l = 0) : psane (getP l) = true ∧ putP (getP l) = l.take (getN l) := by
  obtain ⟨hh, hd⟩ := get_parts he
  obtain ⟨hk, hs⟩ := dig_parts hd
  have hl := head_len hh
  obtain ⟨b0, b1⟩ := at0_bd hb 1
  have hn := need_le _ _ b0 (head_wid hh)
  have hg : getP l = digP (at0 l 0 == 6) (at0 l 1) (l.drop 2) := by unfold getP; rw [if_pos he]
  have hN : getN l = 2 + need (at0 l 1) := by unfold getN; rw [if_pos he]
  rw [hg, hN]
  refine ⟨hs, ?_⟩
  rw [List.length_drop] at hk
  have hp := put_form _ hs []
  rw [List.append_nil] at hp
  rw [hp]
  refine eq_of_at0 ?_ fun j hj => ?_
  · simp [digP, List.length_take]
    omega
  · rw [at0_take _ _ _ (by simp [digP] at hj; omega)]
    match j, hj with
    | 0, _ => exact head_kind hh
    | 1, _ => rfl
    | j + 2, hj =>
      have hj' : j < need (at0 l 1) := by simp [digP] at hj; omega
      show at0 ((List.range (need (at0 l 1))).map (byteAt (fromv (firstK (l.drop 2) (need (at0 l 1))) (at0 l 0 == 6))) ++ []) j = _
      rw [at0_map _ _ _ _ hj', bytes_from _ _ (fun i _ => firstK_bd (bd_drop hb 2) _ i) j (by omega)]
      unfold firstK
      rw [if_pos hj', at0_drop, Nat.add_comm]
/-- A byte less is short. -/
theorem get_short (p : Pf) (h : psane p = true) : getE ((putP p).take ((putP p).length - 1)) = 6 := by
  obtain ⟨_, n0, n1, _⟩ := (psane_iff p).1 h
  have hk := need_le _ _ n0 n1
  have hl := putP_len p h
  by_cases h0 : need p.n = 0
  · have : headE ((putP p).take ((putP p).length - 1)) = 6 := by
      unfold headE
      rw [if_pos (by rw [List.length_take]; omega)]
    unfold getE
    rw [this]
    rfl
  · have hp := put_form p h []
    rw [List.append_nil] at hp
    generalize hL : (putP p).take ((putP p).length - 1) = L
    have hlen : L.length = 1 + need p.n := by rw [← hL, List.length_take]; omega
    have e0 : at0 L 0 = kindOf p.a.v6 := by rw [← hL, at0_take _ _ _ (by omega), hp]; rfl
    have e1 : at0 L 1 = p.n := by rw [← hL, at0_take _ _ _ (by omega), hp]; rfl
    have eh : headE L = 0 := by
      unfold headE
      rw [if_neg (by omega), e0, kind_eq, e1, if_neg (by unfold kindOf; cases p.a.v6 <;> simp), if_neg (by omega)]
    unfold getE
    rw [if_pos eh, e1]
    unfold digE
    rw [if_pos (by rw [List.length_drop]; omega)]
theorem putR_form (r : Rt) (h : rgood r = true) : putR r = putP r.p ++ [r.hop / 256, r.hop % 256] := by unfold putR; rw [if_pos h]
theorem at0_behind (a b : List Int) (j : Nat) : at0 (a ++ b) (a.length + j) = at0 b j := by
  unfold at0
  rw [List.getD_eq_getElem?_getD, List.getD_eq_getElem?_getD, List.getElem?_append_right (by omega), Nat.add_sub_cancel_left]
/-- A route that was put is got again, whatever stands behind. -/
theorem gr_put (r : Rt) (h : rgood r = true) (m : List Int) : grE (putR r ++ m) = 0 ∧ grR (putR r ++ m) = r ∧ grN (putR r ++ m) = (putR r).length := by
  obtain ⟨hs, h0, h1⟩ := (rgood_iff r).1 h
  have e : putR r ++ m = putP r.p ++ ([r.hop / 256, r.hop % 256] ++ m) := by rw [putR_form r h, List.append_assoc]
  obtain ⟨g1, g2, g3⟩ := get_put r.p hs ([r.hop / 256, r.hop % 256] ++ m)
  rw [← e] at g1 g2 g3
  have hd : (putR r ++ m).drop (putP r.p).length = [r.hop / 256, r.hop % 256] ++ m := by rw [e]; simp
  have ge : grE (putR r ++ m) = 0 := by
    unfold grE
    rw [if_pos g1, g3, hd]
    unfold hopE
    rw [if_neg (by simp)]
  refine ⟨ge, ?_, ?_⟩
  · unfold grR
    rw [if_pos ge, g2, g3]
    have a0 : at0 (putR r ++ m) (putP r.p).length = r.hop / 256 := by
      have := at0_behind (putP r.p) ([r.hop / 256, r.hop % 256] ++ m) 0
      rw [← e] at this
      exact this
    have a1 : at0 (putR r ++ m) ((putP r.p).length + 1) = r.hop % 256 := by
      have := at0_behind (putP r.p) ([r.hop / 256, r.hop % 256] ++ m) 1
      rw [← e] at this
      exact this
    rw [a0, a1]
    obtain ⟨p, o⟩ := r
    have : o / 256 * 256 + o % 256 = o := by omega
    show (⟨p, o / 256 * 256 + o % 256⟩ : Rt) = ⟨p, o⟩
    rw [this]
  · unfold grN
    rw [if_pos ge, g3, putR_form r h]
    simp
theorem gr_parts {l : List Int} (he : grE l = 0) : getE l = 0 ∧ 2 ≤ (l.drop (getN l)).length := by
  have hg : getE l = 0 := by
    by_cases hg : getE l = 0
    · exact hg
    · unfold grE at he
      rw [if_neg hg] at he
      exact absurd he hg
  refine ⟨hg, ?_⟩
  unfold grE at he
  rw [if_pos hg] at he
  unfold hopE at he
  split at he
  · cases he
  · omega
/-- A route that is got may be, and has these bytes. -/
theorem gr_get {l : List Int} (hb : ∀ x ∈ l, 0 ≤ x ∧ x < 256) (he : grE l = 0) : rgood (grR l) = true ∧ putR (grR l) = l.take (grN l) ∧ (grR l).p = getP l ∧ grN l = getN l + 2 := by
  obtain ⟨hg, hl⟩ := gr_parts he
  obtain ⟨hs, hp⟩ := put_get hb hg
  rw [List.length_drop] at hl
  obtain ⟨x0, x1⟩ := at0_bd hb (getN l)
  obtain ⟨y0, y1⟩ := at0_bd hb (getN l + 1)
  have er : grR l = ⟨getP l, at0 l (getN l) * 256 + at0 l (getN l + 1)⟩ := by unfold grR; rw [if_pos he]
  have en : grN l = getN l + 2 := by unfold grN; rw [if_pos he]
  have hgood : rgood (grR l) = true := by
    rw [rgood_iff, er]
    refine ⟨hs, ?_, ?_⟩
    · show 0 ≤ at0 l (getN l) * 256 + at0 l (getN l + 1)
      omega
    · show at0 l (getN l) * 256 + at0 l (getN l + 1) ≤ 65535
      omega
  refine ⟨hgood, ?_, by rw [er], en⟩
  rw [putR_form _ hgood, er, en]
  show putP (getP l) ++ [(at0 l (getN l) * 256 + at0 l (getN l + 1)) / 256, (at0 l (getN l) * 256 + at0 l (getN l + 1)) % 256] = _
  rw [show (at0 l (getN l) * 256 + at0 l (getN l + 1)) / 256 = at0 l (getN l) by omega, show (at0 l (getN l) * 256 + at0 l (getN l + 1)) % 256 = at0 l (getN l + 1) by omega, hp]
  refine eq_of_at0 ?_ fun j hj => ?_
  · simp [List.length_take]
    omega
  · have hlt : (l.take (getN l)).length = getN l := by rw [List.length_take]; omega
    rw [List.length_append, hlt] at hj
    simp at hj
    rw [at0_take _ _ _ (by omega)]
    by_cases h1 : j < getN l
    · rw [show at0 (l.take (getN l) ++ _) j = at0 (l.take (getN l)) j from by
        unfold at0
        rw [List.getD_eq_getElem?_getD, List.getElem?_append_left (by omega), List.getD_eq_getElem?_getD], at0_take _ _ _ h1]
    · obtain ⟨i, rfl⟩ : ∃ i, j = getN l + i := ⟨j - getN l, by omega⟩
      have := at0_behind (l.take (getN l)) [at0 l (getN l), at0 l (getN l + 1)] i
      rw [hlt] at this
      rw [this]
      rcases (show i = 0 ∨ i = 1 by omega) with rfl | rfl <;> rfl
theorem gr_short (r : Rt) (h : rgood r = true) : grE ((putR r).take ((putR r).length - 1)) = 6 := by
  obtain ⟨hs, h0, h1⟩ := (rgood_iff r).1 h
  have e : (putR r).take ((putR r).length - 1) = putP r.p ++ [r.hop / 256] := by
    rw [putR_form r h]
    simp [List.take_append]
    exact List.take_of_length_le (by omega)
  obtain ⟨g1, g2, g3⟩ := get_put r.p hs [r.hop / 256]
  rw [e]
  unfold grE
  rw [if_pos g1, g3]
  unfold hopE
  rw [if_pos (by simp)]
theorem putR_inj {r s : Rt} (hr : rgood r = true) (hs : rgood s = true) {m n : List Int} (h : putR r ++ m = putR s ++ n) : r = s := by
  have h1 := (gr_put r hr m).2.1
  have h2 := (gr_put s hs n).2.1
  rw [h] at h1
  exact h1.symm.trans h2
theorem putR_pos (r : Rt) (h : rgood r = true) : 4 ≤ (putR r).length ∧ (putR r).length = (putP r.p).length + 2 := by
  obtain ⟨hs, _, _⟩ := (rgood_iff r).1 h
  rw [putR_form r h, List.length_append, putP_len _ hs]
  simp
/-- Reading goes on behind. -/
theorem gr_append {a : List Int} (hb : ∀ x ∈ a, 0 ≤ x ∧ x < 256) (he : grE a = 0) (b : List Int) : grE (a ++ b) = 0 ∧ grR (a ++ b) = grR a ∧ grN (a ++ b) = grN a := by
  obtain ⟨hg, hp, _, _⟩ := gr_get hb he
  obtain ⟨n1, _, _⟩ := grN_bd hb he
  have e : a ++ b = putR (grR a) ++ (a.drop (grN a) ++ b) := by rw [hp, ← List.append_assoc, List.take_append_drop]
  obtain ⟨g1, g2, g3⟩ := gr_put (grR a) hg (a.drop (grN a) ++ b)
  rw [← e] at g1 g2 g3
  refine ⟨g1, g2, ?_⟩
  rw [g3, hp, List.length_take]
  omega
theorem gal_append (n : Nat) : ∀ (a b : List Int), a.length ≤ n → (∀ x ∈ a, 0 ≤ x ∧ x < 256) → (∀ x ∈ b, 0 ≤ x ∧ x < 256) → galE a = 0 → galE (a ++ b) = galE b ∧ (galE b = 0 → galR (a ++ b) = galR a ++ galR b) := by
  induction n with
  | zero =>
    intro a b hn _ _ _
    have : a = [] := List.eq_nil_of_length_eq_zero (by omega)
    subst this
    exact ⟨rfl, fun _ => rfl⟩
  | succ n ih =>
    intro a b hn ha hb he
    by_cases h0 : a.length = 0
    · have : a = [] := List.eq_nil_of_length_eq_zero h0
      subst this
      exact ⟨rfl, fun _ => rfl⟩
    · have hg : grE a = 0 := by
        by_cases hg : grE a = 0
        · exact hg
        · rw [(gal_bad (by omega) hg).2] at he
          exact absurd he hg
      obtain ⟨n1, _, n3⟩ := grN_bd ha hg
      obtain ⟨f1, f2⟩ := gal_go ha (by omega) hg
      obtain ⟨k1, k2, k3⟩ := gr_append ha hg b
      have hab : ∀ x ∈ a ++ b, 0 ≤ x ∧ x < 256 := fun x hx => (List.mem_append.1 hx).elim (ha x) (hb x)
      obtain ⟨q1, q2⟩ := gal_go hab (by rw [List.length_append]; omega) k1
      have hdr : (a ++ b).drop (grN a) = a.drop (grN a) ++ b := List.drop_append_of_le_length n1
      rw [k3, hdr] at q1 q2
      rw [he] at f1
      obtain ⟨i1, i2⟩ := ih (a.drop (grN a)) b (by rw [List.length_drop]; omega) (bd_drop ha _) hb f1.symm
      rw [← f1, if_pos rfl] at f2
      refine ⟨q1.trans i1, fun hz => ?_⟩
      rw [q2, i1, if_pos hz, k2, i2 hz, f2]
      rfl
theorem putL_cons (r : Rt) (l : List Rt) : putL (r :: l) = putR r ++ putL l := rfl
theorem bd_putL (l : List Rt) : ∀ x ∈ putL l, 0 ≤ x ∧ x < 256 := by
  intro x hx
  obtain ⟨r, _, hr⟩ := List.mem_flatMap.1 hx
  exact bd_putR r x hr
theorem gal_putR (r : Rt) (h : rgood r = true) : galE (putR r) = 0 ∧ galR (putR r) = [r] := by
  obtain ⟨g1, g2, g3⟩ := gr_put r h []
  rw [List.append_nil] at g1 g2 g3
  have hp := putR_pos r h
  obtain ⟨f1, f2⟩ := gal_go (bd_putR r) (by omega) g1
  rw [g3, List.drop_length] at f1 f2
  exact ⟨f1, by rw [f2, if_pos gal_nil.2, g2]; rfl⟩
/-- Routes as bytes are these routes. -/
theorem gal_put (l : List Rt) : galE (putL l) = 0 ∧ galR (putL l) = l.filter rgood := by
  induction l with
  | nil => exact ⟨rfl, rfl⟩
  | cons r l ih =>
    rw [putL_cons]
    cases h : rgood r
    · have e0 : putR r = [] := by unfold putR; rw [h]; rfl
      rw [e0, List.nil_append, List.filter_cons_of_neg (by rw [h]; simp)]
      exact ih
    · obtain ⟨p1, p2⟩ := gal_putR r h
      obtain ⟨a1, a2⟩ := gal_append _ (putR r) (putL l) (Nat.le_refl _) (bd_putR r) (bd_putL l) p1
      refine ⟨a1.trans ih.1, ?_⟩
      rw [a2 ih.1, p2, ih.2, List.filter_cons_of_pos h]
      rfl
theorem put_gal (n : Nat) : ∀ b : List Int, b.length ≤ n → (∀ x ∈ b, 0 ≤ x ∧ x < 256) → galE b = 0 → putL (galR b) = b := by
  induction n with
  | zero =>
    intro b hn _ _
    have : b = [] := List.eq_nil_of_length_eq_zero (by omega)
    subst this
    rfl
  | succ n ih =>
    intro b hn hb he
    by_cases h0 : b.length = 0
    · have : b = [] := List.eq_nil_of_length_eq_zero h0
      subst this
      rfl
    · have hg : grE b = 0 := by
        by_cases hg : grE b = 0
        · exact hg
        · rw [(gal_bad (by omega) hg).2] at he
          exact absurd he hg
      obtain ⟨n1, _, n3⟩ := grN_bd hb hg
      obtain ⟨f1, f2⟩ := gal_go hb (by omega) hg
      rw [he] at f1
      rw [← f1, if_pos rfl] at f2
      rw [f2, putL_cons, ih (b.drop (grN b)) (by rw [List.length_drop]; omega) (bd_drop hb _) f1.symm, (gr_get hb hg).2.1, List.take_append_drop]

end Go.Proofs.Ytibhabglmkgaaaa
