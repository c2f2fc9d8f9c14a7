/-
  WireIs: for every input the call returns true, and each argument reads afterwards as it read before. No condition.
-/
import Derived.Test.YtibhabglmkgaaaaVh
import Derived.Test.YtibhabglmkgaaaaPj
import Derived.Test.YtibhabglmkgaaaaBv
import Derived.StillTail
import Derived.Test.YtibhabglmkgaaaaRefH
import Derived.Test.YtibhabglmkgaaaaQf
import Derived.Test.YtibhabglmkgaaaaLate
import Derived.Test.YtibhabglmkgaaaaRowP
import Derived.Test.YtibhabglmkgaaaaVa
namespace Go.Proofs.Ytibhabglmkgaaaa
open Go.RowKit

theorem byteAt_zero (p : Pf) (h : psane p = true) (j : Nat) (hj : need p.n ≤ j) (h16 : j < 16) : byteAt p.a j = 0 := by
  obtain ⟨_, n0, n1, hz⟩ := (psane_iff p).1 h
  obtain ⟨b0, b1⟩ := byteAt_bd p.a j
  have key : (byteAt p.a j).toNat = 0 := by
    apply Nat.eq_of_testBit_eq
    intro m
    rw [Nat.zero_testBit]
    rcases Nat.lt_or_ge m 8 with hm | hm
    · rw [byteAt_bit p.a j h16 m hm]
      refine hz _ ?_
      unfold need at hj
      omega
    · exact byte_high _ b1 m hm
  omega
theorem fHi_cong (f g : Nat → Int) : ∀ n, (∀ j, j < n → f j = g j) → fHi f n = fHi g n
  | 0, _ => rfl
  | n + 1, h => by
    unfold fHi
    rw [fHi_cong f g n (fun j hj => h j (by omega)), h n (by omega)]
theorem fLo_cong (f g : Nat → Int) : ∀ n, (∀ j, j < n → f j = g j) → fLo f n = fLo g n
  | 0, _ => rfl
  | n + 1, h => by
    unfold fLo
    rw [fLo_cong f g n (fun j hj => h j (by omega)), h n (by omega)]
theorem fromv_cong (f g : Nat → Int) (v : Bool) (h : ∀ j, j < nb v → f j = g j) : fromv f v = fromv g v := by
  unfold fromv
  rw [fHi_cong f g _ (fun j hj => h j (by unfold nb; exact hj)), fLo_cong f g _ (fun j hj => h j (by unfold nb; exact hj))]
theorem kind_eq (v : Bool) : (kindOf v == 6) = v := by cases v <;> rfl
theorem at0_map (f : Nat → Int) (k : Nat) (m : List Int) (j : Nat) (h : j < k) : at0 ((List.range k).map f ++ m) j = f j := by
  unfold at0
  rw [List.getD_eq_getElem?_getD, List.getElem?_append_left (by simpa using h)]
  simp [h]
theorem put_form (p : Pf) (h : psane p = true) (m : List Int) : putP p ++ m = kindOf p.a.v6 :: p.n :: ((List.range (need p.n)).map (byteAt p.a) ++ m) := by
  unfold putP
  rw [if_pos h]
  rfl
/-- A prefix that was put is got again, whatever stands behind. -/
theorem get_put (p : Pf) (h : psane p = true) (m : List Int) : getE (putP p ++ m) = 0 ∧ getP (putP p ++ m) = p ∧ getN (putP p ++ m) = (putP p).length := by
  obtain ⟨hnorm, n0, n1, hz⟩ := (psane_iff p).1 h
  rw [putP_len p h, put_form p h m]
  have hk := need_le _ _ n0 n1
  have hnb := nb_le p.a.v6
  generalize hL : kindOf p.a.v6 :: p.n :: ((List.range (need p.n)).map (byteAt p.a) ++ m) = L
  have e0 : at0 L 0 = kindOf p.a.v6 := by subst hL; rfl
  have e1 : at0 L 1 = p.n := by subst hL; rfl
  have e2 : L.drop 2 = (List.range (need p.n)).map (byteAt p.a) ++ m := by subst hL; rfl
  have e3 : 2 ≤ L.length := by subst hL; simp
  have eh : headE L = 0 := by
    unfold headE
    rw [if_neg (by omega), e0, kind_eq, e1, if_neg (by unfold kindOf; cases p.a.v6 <;> simp), if_neg (by omega)]
  have ed : digP p.a.v6 p.n (L.drop 2) = p := by
    unfold digP
    have : fromv (firstK (L.drop 2) (need p.n)) p.a.v6 = p.a := by
      rw [fromv_cong _ (byteAt p.a) p.a.v6, from_bytes, hnorm]
      intro j hj
      unfold firstK
      split
      · rename_i hjk
        rw [e2, at0_map _ _ _ _ hjk]
      · exact (byteAt_zero p h j (by omega) (by omega)).symm
    rw [this]
  have eD : digE p.a.v6 p.n (L.drop 2) = 0 := by
    unfold digE
    rw [ed, if_pos h, if_neg]
    rw [e2]
    simp
  have eg : getE L = 0 := by
    unfold getE
    rw [if_pos eh, e0, kind_eq, e1, eD]
  refine ⟨eg, ?_, ?_⟩
  · unfold getP
    rw [if_pos eg, e0, kind_eq, e1, ed]
  · unfold getN
    rw [if_pos eg, e1]
theorem get_parts {l : List Int} (he : getE l = 0) : headE l = 0 ∧ digE (at0 l 0 == 6) (at0 l 1) (l.drop 2) = 0 := by
  have hh : headE l = 0 := by
    by_cases hh : headE l = 0
    · exact hh
    · unfold getE at he
      rw [if_neg hh] at he
      exact absurd he hh
  refine ⟨hh, ?_⟩
  unfold getE at he
  rw [if_pos hh] at he
  exact he
theorem dig_parts {v : Bool} {n : Int} {l : List Int} (h : digE v n l = 0) : need n ≤ l.length ∧ psane (digP v n l) = true := by
  unfold digE at h
  split at h
  · cases h
  · split at h
    · exact ⟨by omega, by assumption⟩
    · cases h
theorem head_kind {l : List Int} (he : headE l = 0) : kindOf (at0 l 0 == 6) = at0 l 0 := by
  unfold headE at he
  split at he
  · cases he
  · split at he
    · cases he
    · rename_i h
      rcases (show at0 l 0 = 4 ∨ at0 l 0 = 6 by omega) with e | e <;> rw [e] <;> rfl
theorem eq_of_at0 {l m : List Int} (hl : l.length = m.length) (h : ∀ j, j < l.length → at0 l j = at0 m j) : l = m := by
  refine List.ext_getElem hl fun j h1 h2 => ?_
  have := h j h1
  unfold at0 at this
  rw [List.getD_eq_getElem?_getD, List.getD_eq_getElem?_getD, List.getElem?_eq_getElem h1, List.getElem?_eq_getElem h2] at this
  exact this
/-- What is got may be, and has these bytes. -/
theorem put_get {l : List Int} (hb : ∀ x ∈ l, 0 ≤ x ∧ x < 256) (he : getE l = 0) : psane (getP l) = true ∧ putP (getP l) = l.take (getN l) := by
  obtain ⟨hh, hd⟩ := get_parts he
  obtain ⟨hk, hs⟩ := dig_parts hd
  have hl := head_len hh
  obtain ⟨b0, b1⟩ := at0_bd hb 1
  have hn := need_le _ _ b0 (head_wid hh)
  have hg : getP l = digP (at0 l 0 == 6) (at0 l 1) (l.drop 2) := by unfold getP; rw [if_pos he]
  have hN : getN l = 2 + need (at0 l 1) := by unfold getN; rw [if_pos he]
  rw [hg, hN]
  refine ⟨hs, ?_⟩
  rw [List.length_drop] at hk
  have hp := put_form _ hs []
  rw [List.append_nil] at hp
  rw [hp]
  refine eq_of_at0 ?_ fun j hj => ?_
  · simp [digP, List.length_take]
    omega
  · rw [at0_take _ _ _ (by simp [digP] at hj; omega)]
    match j, hj with
    | 0, _ => exact head_kind hh
    | 1, _ => rfl
    | j + 2, hj =>
      have hj' : j < need (at0 l 1) := by simp [digP] at hj; omega
      show at0 ((List.range (need (at0 l 1))).map (byteAt (fromv (firstK (l.drop 2) (need (at0 l 1))) (at0 l 0 == 6))) ++ []) j = _
      rw [at0_map _ _ _ _ hj', bytes_from _ _ (fun i _ => firstK_bd (bd_drop hb 2) _ i) j (by omega)]
      unfold firstK
      rw [if_pos hj', at0_drop, Nat.add_comm]
/-- A byte less is short. -/
theorem get_short (p : Pf) (h : psane p = true) : getE ((putP p).take ((putP p).length - 1)) = 6 := by
  obtain ⟨_, n0, n1, _⟩ := (psane_iff p).1 h
  have hk := need_le _ _ n0 n1
  have hl := putP_len p h
  by_cases h0 : need p.n = 0
  · have : headE ((putP p).take ((putP p).length - 1)) = 6 := by
      unfold headE
      rw [if_pos (by rw [List.length_take]; omega)]
    unfold getE
    rw [this]
    rfl
  · have hp := put_form p h []
    rw [List.append_nil] at hp
    generalize hL : (putP p).take ((putP p).length - 1) = L
    have hlen : L.length = 1 + need p.n := by rw [← hL, List.length_take]; omega
    have e0 : at0 L 0 = kindOf p.a.v6 := by rw [← hL, at0_take _ _ _ (by omega), hp]; rfl
    have e1 : at0 L 1 = p.n := by rw [← hL, at0_take _ _ _ (by omega), hp]; rfl
    have eh : headE L = 0 := by
      unfold headE
      rw [if_neg (by omega), e0, kind_eq, e1, if_neg (by unfold kindOf; cases p.a.v6 <;> simp), if_neg (by omega)]
    unfold getE
    rw [if_pos eh, e1]
    unfold digE
    rw [if_pos (by rw [List.length_drop]; omega)]
theorem putR_form (r : Rt) (h : rgood r = true) : putR r = putP r.p ++ [r.hop / 256, r.hop % 256] := by unfold putR; rw [if_pos h]
theorem at0_behind (a b : List Int) (j : Nat) : at0 (a ++ b) (a.length + j) = at0 b j := by
  unfold at0
  rw [List.getD_eq_getElem?_getD, List.getD_eq_getElem?_getD, List.getElem?_append_right (by omega), Nat.add_sub_cancel_left]
/-- A route that was put is got again, whatever stands behind. -/
theorem gr_put (r : Rt) (h : rgood r = true) (m : List Int) : grE (putR r ++ m) = 0 ∧ grR (putR r ++ m) = r ∧ grN (putR r ++ m) = (putR r).length := by
  obtain ⟨hs, h0, h1⟩ := (rgood_iff r).1 h
  have e : putR r ++ m = putP r.p ++ ([r.hop / 256, r.hop % 256] ++ m) := by rw [putR_form r h, List.append_assoc]
  obtain ⟨g1, g2, g3⟩ := get_put r.p hs ([r.hop / 256, r.hop % 256] ++ m)
  rw [← e] at g1 g2 g3
  have hd : (putR r ++ m).drop (putP r.p).length = [r.hop / 256, r.hop % 256] ++ m := by rw [e]; simp
  have ge : grE (putR r ++ m) = 0 := by
    unfold grE
    rw [if_pos g1, g3, hd]
    unfold hopE
    rw [if_neg (by simp)]
  refine ⟨ge, ?_, ?_⟩
  · unfold grR
    rw [if_pos ge, g2, g3]
    have a0 : at0 (putR r ++ m) (putP r.p).length = r.hop / 256 := by
      have := at0_behind (putP r.p) ([r.hop / 256, r.hop % 256] ++ m) 0
      rw [← e] at this
      exact this
    have a1 : at0 (putR r ++ m) ((putP r.p).length + 1) = r.hop % 256 := by
      have := at0_behind (putP r.p) ([r.hop / 256, r.hop % 256] ++ m) 1
      rw [← e] at this
      exact this
    rw [a0, a1]
    obtain ⟨p, o⟩ := r
    have : o / 256 * 256 + o % 256 = o := by omega
    show (⟨p, o / 256 * 256 + o % 256⟩ : Rt) = ⟨p, o⟩
    rw [this]
  · unfold grN
    rw [if_pos ge, g3, putR_form r h]
    simp
theorem gr_parts {l : List Int} (he : grE l = 0) : getE l = 0 ∧ 2 ≤ (l.drop (getN l)).length := by
  have hg : getE l = 0 := by
    by_cases hg : getE l = 0
    · exact hg
    · unfold grE at he
      rw [if_neg hg] at he
      exact absurd he hg
  refine ⟨hg, ?_⟩
  unfold grE at he
  rw [if_pos hg] at he
  unfold hopE at he
  split at he
  · cases he
  · omega
/-- A route that is got may be, and has these bytes. -/
theorem gr_get {l : List Int} (hb : ∀ x ∈ l, 0 ≤ x ∧ x < 256) (he : grE l = 0) : rgood (grR l) = true ∧ putR (grR l) = l.take (grN l) ∧ (grR l).p = getP l ∧ grN l = getN l + 2 := by
  obtain ⟨hg, hl⟩ := gr_parts he
  obtain ⟨hs, hp⟩ := put_get hb hg
  rw [List.length_drop] at hl
  obtain ⟨x0, x1⟩ := at0_bd hb (getN l)
  obtain ⟨y0, y1⟩ := at0_bd hb (getN l + 1)
  have er : grR l = ⟨getP l, at0 l (getN l) * 256 + at0 l (getN l + 1)⟩ := by unfold grR; rw [if_pos he]
  have en : grN l = getN l + 2 := by unfold grN; rw [if_pos he]
  have hgood : rgood (grR l) = true := by
    rw [rgood_iff, er]
    refine ⟨hs, ?_, ?_⟩
    · show 0 ≤ at0 l (getN l) * 256 + at0 l (getN l + 1)
      omega
    · show at0 l (getN l) * 256 + at0 l (getN l + 1) ≤ 65535
      omega
  refine ⟨hgood, ?_, by rw [er], en⟩
  rw [putR_form _ hgood, er, en]
  show putP (getP l) ++ [(at0 l (getN l) * 256 + at0 l (getN l + 1)) / 256, (at0 l (getN l) * 256 + at0 l (getN l + 1)) % 256] = _
  rw [show (at0 l (getN l) * 256 + at0 l (getN l + 1)) / 256 = at0 l (getN l) by omega, show (at0 l (getN l) * 256 + at0 l (getN l + 1)) % 256 = at0 l (getN l + 1) by omega, hp]
  refine eq_of_at0 ?_ fun j hj => ?_
  · simp [List.length_take]
    omega
  · have hlt : (l.take (getN l)).length = getN l := by rw [List.length_take]; omega
    rw [List.length_append, hlt] at hj
    simp at hj
    rw [at0_take _ _ _ (by omega)]
    by_cases h1 : j < getN l
    · rw [show at0 (l.take (getN l) ++ _) j = at0 (l.take (getN l)) j from by
        unfold at0
        rw [List.getD_eq_getElem?_getD, List.getElem?_append_left (by omega), List.getD_eq_getElem?_getD], at0_take _ _ _ h1]
    · obtain ⟨i, rfl⟩ : ∃ i, j = getN l + i := ⟨j - getN l, by omega⟩
      have := at0_behind (l.take (getN l)) [at0 l (getN l), at0 l (getN l + 1)] i
      rw [hlt] at this
      rw [this]
      rcases (show i = 0 ∨ i = 1 by omega) with rfl | rfl <;> rfl
theorem gr_short (r : Rt) (h : rgood r = true) : grE ((putR r).take ((putR r).length - 1)) = 6 := by
  obtain ⟨hs, h0, h1⟩ := (rgood_iff r).1 h
  have e : (putR r).take ((putR r).length - 1) = putP r.p ++ [r.hop / 256] := by
    rw [putR_form r h]
    simp [List.take_append]
    exact List.take_of_length_le (by omega)
  obtain ⟨g1, g2, g3⟩ := get_put r.p hs [r.hop / 256]
  rw [e]
  unfold grE
  rw [if_pos g1, g3]
  unfold hopE
  rw [if_pos (by simp)]
theorem putR_inj {r s : Rt} (hr : rgood r = true) (hs : rgood s = true) {m n : List Int} (h : putR r ++ m = putR s ++ n) : r = s := by
  have h1 := (gr_put r hr m).2.1
  have h2 := (gr_put s hs n).2.1
  rw [h] at h1
  exact h1.symm.trans h2
theorem putR_pos (r : Rt) (h : rgood r = true) : 4 ≤ (putR r).length ∧ (putR r).length = (putP r.p).length + 2 := by
  obtain ⟨hs, _, _⟩ := (rgood_iff r).1 h
  rw [putR_form r h, List.length_append, putP_len _ hs]
  simp
/-- Reading goes on behind. -/
theorem gr_append {a : List Int} (hb : ∀ x ∈ a, 0 ≤ x ∧ x < 256) (he : grE a = 0) (b : List Int) : grE (a ++ b) = 0 ∧ grR (a ++ b) = grR a ∧ grN (a ++ b) = grN a := by
  obtain ⟨hg, hp, _, _⟩ := gr_get hb he
  obtain ⟨n1, _, _⟩ := grN_bd hb he
  have e : a ++ b = putR (grR a) ++ (a.drop (grN a) ++ b) := by rw [hp, ← List.append_assoc, List.take_append_drop]
  obtain ⟨g1, g2, g3⟩ := gr_put (grR a) hg (a.drop (grN a) ++ b)
  rw [← e] at g1 g2 g3
  refine ⟨g1, g2, ?_⟩
  rw [g3, hp, List.length_take]
  omega
theorem gal_append (n : Nat) : ∀ (a b : List Int), a.length ≤ n → (∀ x ∈ a, 0 ≤ x ∧ x < 256) → (∀ x ∈ b, 0 ≤ x ∧ x < 256) → galE a = 0 → galE (a ++ b) = galE b ∧ (galE b = 0 → galR (a ++ b) = galR a ++ galR b) := by
  induction n with
  | zero =>
    intro a b hn _ _ _
    have : a = [] := List.eq_nil_of_length_eq_zero (by omega)
    subst this
    exact ⟨rfl, fun _ => rfl⟩
  | succ n ih =>
    intro a b hn ha hb he
    by_cases h0 : a.length = 0
    · have : a = [] := List.eq_nil_of_length_eq_zero h0
      subst this
      exact ⟨rfl, fun _ => rfl⟩
    · have hg : grE a = 0 := by
        by_cases hg : grE a = 0
        · exact hg
        · rw [(gal_bad (by omega) hg).2] at he
          exact absurd he hg
      obtain ⟨n1, _, n3⟩ := grN_bd ha hg
      obtain ⟨f1, f2⟩ := gal_go ha (by omega) hg
      obtain ⟨k1, k2, k3⟩ := gr_append ha hg b
      have hab : ∀ x ∈ a ++ b, 0 ≤ x ∧ x < 256 := fun x hx => (List.mem_append.1 hx).elim (ha x) (hb x)
      obtain ⟨q1, q2⟩ := gal_go hab (by rw [List.length_append]; omega) k1
      have hdr : (a ++ b).drop (grN a) = a.drop (grN a) ++ b := List.drop_append_of_le_length n1
      rw [k3, hdr] at q1 q2
      rw [he] at f1
      obtain ⟨i1, i2⟩ := ih (a.drop (grN a)) b (by rw [List.length_drop]; omega) (bd_drop ha _) hb f1.symm
      rw [← f1, if_pos rfl] at f2
      refine ⟨q1.trans i1, fun hz => ?_⟩
      rw [q2, i1, if_pos hz, k2, i2 hz, f2]
      rfl
theorem putL_cons (r : Rt) (l : List Rt) : putL (r :: l) = putR r ++ putL l := rfl
theorem bd_putL (l : List Rt) : ∀ x ∈ putL l, 0 ≤ x ∧ x < 256 := by
  intro x hx
  obtain ⟨r, _, hr⟩ := List.mem_flatMap.1 hx
  exact bd_putR r x hr
theorem gal_putR (r : Rt) (h : rgood r = true) : galE (putR r) = 0 ∧ galR (putR r) = [r] := by
  obtain ⟨g1, g2, g3⟩ := gr_put r h []
  rw [List.append_nil] at g1 g2 g3
  have hp := putR_pos r h
  obtain ⟨f1, f2⟩ := gal_go (bd_putR r) (by omega) g1
  rw [g3, List.drop_length] at f1 f2
  exact ⟨f1, by rw [f2, if_pos gal_nil.2, g2]; rfl⟩
/-- Routes as bytes are these routes. -/
theorem gal_put (l : List Rt) : galE (putL l) = 0 ∧ galR (putL l) = l.filter rgood := by
  induction l with
  | nil => exact ⟨rfl, rfl⟩
  | cons r l ih =>
    rw [putL_cons]
    cases h : rgood r
    · have e0 : putR r = [] := by unfold putR; rw [h]; rfl
      rw [e0, List.nil_append, List.filter_cons_of_neg (by rw [h]; simp)]
      exact ih
    · obtain ⟨p1, p2⟩ := gal_putR r h
      obtain ⟨a1, a2⟩ := gal_append _ (putR r) (putL l) (Nat.le_refl _) (bd_putR r) (bd_putL l) p1
      refine ⟨a1.trans ih.1, ?_⟩
      rw [a2 ih.1, p2, ih.2, List.filter_cons_of_pos h]
      rfl
theorem put_gal (n : Nat) : ∀ b : List Int, b.length ≤ n → (∀ x ∈ b, 0 ≤ x ∧ x < 256) → galE b = 0 → putL (galR b) = b := by
  induction n with
  | zero =>
    intro b hn _ _
    have : b = [] := List.eq_nil_of_length_eq_zero (by omega)
    subst this
    rfl
  | succ n ih =>
    intro b hn hb he
    by_cases h0 : b.length = 0
    · have : b = [] := List.eq_nil_of_length_eq_zero h0
      subst this
      rfl
    · have hg : grE b = 0 := by
        by_cases hg : grE b = 0
        · exact hg
        · rw [(gal_bad (by omega) hg).2] at he
          exact absurd he hg
      obtain ⟨n1, _, n3⟩ := grN_bd hb hg
      obtain ⟨f1, f2⟩ := gal_go hb (by omega) hg
      rw [he] at f1
      rw [← f1, if_pos rfl] at f2
      rw [f2, putL_cons, ih (b.drop (grN b)) (by rw [List.length_drop]; omega) (bd_drop hb _) f1.symm, (gr_get hb hg).2.1, List.take_append_drop]

end Go.Proofs.Ytibhabglmkgaaaa

namespace Go.Proofs.Ytibhabglmkgaaaa
open Go.RowKit
set_option maxRecDepth 100000

theorem RdR.at_ {w : World} {A : Option Addr} {rs : List Rt} (h : RdR w A rs) {k : Nat} (hk : k < rs.length) : ∃ g off, A = some ⟨g, off, none⟩ ∧ g < w.heap.size ∧ w.cell? ⟨g, off + k * 5, none⟩ = some (.int .u64 (u rs[k].p.a.hi)) ∧ w.cell? ⟨g, off + k * 5 + 1, none⟩ = some (.int .u64 (u rs[k].p.a.lo)) ∧ w.cell? ⟨g, off + k * 5 + 2, none⟩ = some (.bool rs[k].p.a.v6) ∧ w.cell? ⟨g, off + k * 5 + 3, none⟩ = some (.int .i64 rs[k].p.n) ∧ w.cell? ⟨g, off + k * 5 + 4, none⟩ = some (.int .i64 rs[k].hop) := by
  obtain ⟨g, off, e, hg, hc⟩ := h (fun e => by rw [e] at hk; simp at hk)
  exact ⟨g, off, e, hg, hc k hk⟩

set_option maxHeartbeats 2000000 in
theorem same_yes (A B : Option Addr) (c d : Nat) (rs : List Rt) (w : World) (hb : rs.length ≤ 1000000) (h1 : RdR w A rs) (h2 : RdR w B rs) :
    Calls Try.prog 16 #[.slice A rs.length c, .slice B rs.length d] w fun e w' => e = .returned (.bool true) ∧ Below w.heap.size w w' := by
  have H1 := Lib.hid h1
  have H2 := Lib.hid h2
  clear h1 h2
  go_enter Try.func16, Try.ntmps16
  go_wp2_with fail
  go_loopw [5] (fun i wr => ∃ k : Nat, k ≤ rs.length ∧ i = .int .i64 k ∧ Below w.heap.size w wr) (fun i _ => rs.length - (intOf i).toNat)
  case atStart => exact ⟨0, Nat.zero_le _, rfl, Below.refl _ _⟩
  case round =>
    obtain ⟨k, hk, rfl, hB⟩ := hrel
    by_cases hlt : k < rs.length
    · have hlt' : (k : Int) < (rs.length : Int) := by omega
      have hk0 : (0 : Int) ≤ (k : Int) := by omega
      obtain ⟨g, off, rfl, hg, a0, a1, a2, a3, a4⟩ := (H1.out.keep hB).at_ hlt
      obtain ⟨g', off', rfl, hg', b0, b1, b2, b3, b4⟩ := (H2.out.keep hB).at_ hlt
      generalize rs[k] = r at *
      obtain ⟨W, rfl⟩ : ∃ W, W = wr := ⟨_, rfl⟩
      have hz := hB.size
      have A0 := fun x : Later W.heap.size W => (x.cell (p := ⟨g, off + k * 5, none⟩) hg).trans a0
      have A1 := fun x : Later W.heap.size W => (x.cell (p := ⟨g, off + k * 5 + 1, none⟩) hg).trans a1
      have A2 := fun x : Later W.heap.size W => (x.cell (p := ⟨g, off + k * 5 + 2, none⟩) hg).trans a2
      have A3 := fun x : Later W.heap.size W => (x.cell (p := ⟨g, off + k * 5 + 3, none⟩) hg).trans a3
      have A4 := fun x : Later W.heap.size W => (x.cell (p := ⟨g, off + k * 5 + 4, none⟩) hg).trans a4
      have B0 := fun x : Later W.heap.size W => (x.cell (p := ⟨g', off' + k * 5, none⟩) hg').trans b0
      have B1 := fun x : Later W.heap.size W => (x.cell (p := ⟨g', off' + k * 5 + 1, none⟩) hg').trans b1
      have B2 := fun x : Later W.heap.size W => (x.cell (p := ⟨g', off' + k * 5 + 2, none⟩) hg').trans b2
      have B3 := fun x : Later W.heap.size W => (x.cell (p := ⟨g', off' + k * 5 + 3, none⟩) hg').trans b3
      have B4 := fun x : Later W.heap.size W => (x.cell (p := ⟨g', off' + k * 5 + 4, none⟩) hg').trans b4
      clear a0 a1 a2 a3 a4 b0 b1 b2 b3 b4
      go_wp2_with fail
      refine region_later W.heap.size (by kernel_rfl) (by kernel_rfl) ?_
      repeat (go_big_quiet_step (fail))
      refine wpQuiet_nil ?_
      intro x
      have hx : Below w.heap.size w x.at := hB.trans (x.below.mono hz)
      clear A0 A1 A2 A3 A4 B0 B1 B2 B3 B4
      generalize x.at = w2 at *
      clear x
      go_wp2_with fail
      refine ⟨⟨k + 1, by omega, by go_num, hx⟩, by simp [intOf]; omega⟩
    · obtain rfl : k = rs.length := by omega
      have hlt' : ¬ (rs.length : Int) < (rs.length : Int) := by omega
      go_wp2
      go_ret
      exact ⟨rfl, hB⟩

theorem putL_take (rs : List Rt) (k : Nat) (h : k < rs.length) : putL (rs.take (k + 1)) = putL (rs.take k) ++ putR rs[k] := by
  rw [List.take_succ_eq_append_getElem h]
  unfold putL
  rw [List.flatMap_append]
  simp
theorem putL_le (rs : List Rt) : (putL rs).length ≤ 20 * rs.length := by
  induction rs with
  | nil => simp [putL]
  | cons r rs ih =>
    have := putR_le r
    have e : putL (r :: rs) = putR r ++ putL rs := rfl
    rw [e, List.length_append, List.length_cons]
    omega
set_option maxHeartbeats 2000000 in
theorem putAll_any (A : Option Addr) (c : Nat) (rs : List Rt) (w : World) (hb : rs.length ≤ 20000) (h1 : RdR w A rs) : Calls Try.prog 23 #[.slice A rs.length c] w (RowPost w (putL rs)) := by
  have H1 := Lib.hid h1
  clear h1
  go_enter Try.func23, Try.ntmps23
  go_wp2_with fail
  go_loopw [3, 8] (fun v i wr => ∃ k : Nat, k ≤ rs.length ∧ i = .int .i64 k ∧ wr.ownsRow w.heap.size 5 1 v (putL (rs.take k)).length (bv (putL (rs.take k))) ∧ Below w.heap.size w wr) (fun _ i _ => rs.length - (intOf i).toNat)
  case atStart => exact ⟨0, Nat.zero_le _, rfl, World.ownsRow_nil _ _ _ _, Below.refl _ _⟩
  case round =>
    obtain ⟨k, hk, rfl, hown, hB⟩ := hrel
    have Hown := Lib.hid hown
    have hz := hB.size
    clear hown
    by_cases hlt : k < rs.length
    · have hlt' : (k : Int) < (rs.length : Int) := by omega
      have hk0 : (0 : Int) ≤ (k : Int) := by omega
      have Htk := Lib.hid (putL_take rs k hlt)
      have hle1 := putL_le (rs.take k)
      have hle2 : (rs.take k).length ≤ k := List.length_take_le _ _
      have hle3 : (putL (rs.take k)).length ≤ 400000 := by omega
      obtain ⟨g, off, rfl, hg, a0, a1, a2, a3, a4⟩ := (H1.out.keep hB).at_ hlt
      generalize rs[k] = r at *
      have hle4 := putR_le r
      clear hle1 hle2
      go_wp2_with fail
      refine (routeBytes_any r _).mono ?_
      rintro e w2 ⟨v2, rfl, ho2, hw2⟩
      obtain ⟨_, B, d, rfl, hr2⟩ := own_rd ho2 (bd_putR r)
      have bw2 := hB.trans ((below_of (w := wr) (by go_grown) hw2).mono hz)
      have z2 := bw2.size
      have Ho2 := Lib.hid (own_keep (Hown.out.alloc _) hw2)
      have Hr2 := Lib.hid hr2
      clear ho2 hw2 hr2 a0 a1 a2 a3 a4
      go_wp2_with (
        at_builtin
        refine wpList_bytes rfl (.tmp 12) (.tmp 14) rfl w.heap.size _ _ _ (by rfl) Ho2.out _ _ d (putR r) (by rfl) rfl Hr2.out (by omega) z2 ?_
        intro v3 w3 ho3 hb3
        have H3 := Lib.hid ho3
        clear ho3
        )
      refine ⟨⟨k + 1, by omega, by go_num, ?_, bw2.trans hb3⟩, by simp [intOf]; omega⟩
      rw [Htk.out]
      exact own_fit H3.out
    · obtain rfl : k = rs.length := by omega
      have hlt' : ¬ (rs.length : Int) < (rs.length : Int) := by omega
      have Ho := Lib.hid (show wr.ownsRow w.heap.size 5 1 u3 (putL rs).length (bv (putL rs)) by have := Hown.out; rwa [List.take_length] at this)
      clear Hown
      go_wp2
      go_ret
      exact ⟨_, rfl, Ho.out, hB⟩

end Go.Proofs.Ytibhabglmkgaaaa

namespace Go.Proofs.Ytibhabglmkgaaaa
open Go.RowKit
set_option maxRecDepth 100000

theorem conv_rd {w : World} {A : Option Addr} {c : Nat} {l : List Int} (h : Rd w A c l) : (convert 22 9 (.slice A l.length c)).run Try.prog w = .ok (.string (strOfNums l)) w := by
  by_cases h0 : l = []
  · subst h0
    rcases A with _ | ad
    · exact run_convert_bytes_nil w 22 5 Try.underlying22 Try.underlying5 0 c 9 Try.underlying9
    · have hl : (loadCells ad 0).run Try.prog w = .ok (([] : List Int).map (Value.int .u8)).toArray w := by simpa using run_loadCells_list (P := Try.prog) w ad [] (by simp)
      rw [run_convert_bytes_string w 22 9 5 _ _ c Try.underlying22 Try.underlying5 Try.underlying9]
      exact run_bytesToString w _ 0 c [] hl
  · obtain ⟨g, off, rfl, hg, hc⟩ := h.2.2.2 h0
    exact run_convert_bytes_arg w 22 5 Try.underlying22 Try.underlying5 g off l.length c l rfl hc 9 Try.underlying9
theorem exW : putP (pof adA 8) = [4, 8, 10] := by decide +kernel
theorem exW2 : getE [4, 8, 10] = 0 ∧ getN [4, 8, 10] = 3 ∧ (getP [4, 8, 10]).n = 8 ∧ adEq (getP [4, 8, 10]).a adA = true := by decide +kernel
theorem exW3 : strOfNums [4, 8, 10] = ⟨#[4, 8, 10]⟩ := by decide +kernel

set_option maxHeartbeats 1000000 in
theorem awake4_gen (a : Ad) (q : Pf) (l : List Int) (w : World) (ea : fromv exA false = a) (hq : [] ++ putP (pof a 8) = l) (h1 : getE l = 0) (h2 : getN l = 3) (hg : getP l = q) (h3 : q.n = 8) (h4 : adB (u q.a.hi) (u q.a.lo) q.a.v6 (u a.hi) (u a.lo) a.v6 = true) (h5 : strOfNums l = ⟨#[4, 8, 10]⟩) :
    Calls Try.prog 9 #[] w fun e w' => e = .returned (.bool true) ∧ Below w.heap.size w w' := by
  have hFa := fun (g : Nat) (W : World) hg hc => from_four g 0 4 exA (by intro j _; unfold exA; omega) W hg hc
  rw [ea] at hFa
  have HFa := Lib.hid hFa
  have t3 : (q.n == 8) = true := by simp [h3]
  have hpt := fun W : World => put_any none 0 [] (pof a 8) W ⟨Nat.le_refl _, Nat.zero_le _, fun x hx => absurd hx (List.not_mem_nil), fun h => absurd rfl h⟩ (by simp)
  rw [hq] at hpt
  have hgt := fun (A : Option Addr) (c : Nat) (W : World) (h : Rd W A c l) => get_any A c l W h
  rw [h1, h2, hg] at hgt
  have Hp := Lib.hid hpt
  have Hg := Lib.hid hgt
  have hbd : ∀ x ∈ l, 0 ≤ x ∧ x < 256 := by rw [← hq]; exact bd_putP _
  have Hb := Lib.hid hbd
  have H5 := Lib.hid h5
  clear hFa ea hpt hgt hq h1 h2 hg hbd h5 h3
  go_enter Try.func9, Try.ntmps9
  go_wp2_with fail
  refine (HFa.out w.heap.size _ ?_ ?_).mono ?_
  · simp
  · intro j hj
    have hj' : j = 0 ∨ j = 1 ∨ j = 2 ∨ j = 3 := by omega
    rcases hj' with rfl | rfl | rfl | rfl <;> rw [cell_new (by simp)] <;> rfl
  rintro e w1 ⟨rfl, hw1⟩
  have zw1 := hw1.size
  have bw1 := below_of (w := w) (by go_grown) hw1
  try simp at zw1
  clear hw1
  go_wp2_with fail
  refine (pof_any a 8 _).mono ?_
  rintro e w2 ⟨rfl, hw2⟩
  have zw2 := hw2.size
  have bw2 := below_of (w := w) (by go_grown) hw2
  try simp at zw2
  obtain ⟨pa, pb, pc, pd, pe, pf, pz⟩ := cells3 (b := w1.heap.size) hw2 (by go_size) (by go_simp <;> rfl) (by go_simp <;> rfl) (by go_simp <;> rfl) (by go_simp <;> rfl) (by go_simp <;> rfl) (by go_simp <;> rfl)
  clear hw2
  go_wp2_with fail
  refine (Hp.out _).mono ?_
  rintro e w3 ⟨v3, rfl, ho3, hw3⟩
  obtain ⟨_, A, c, rfl, hr3⟩ := own_rd ho3 Hb.out
  have bw3 := below_of (w := w) (by go_grown) hw3
  obtain ⟨p'a, p'b, p'c, p'd, p'e, p'f, p'z⟩ := cells3 (b := w1.heap.size) hw3 (by go_size) (by go_simp <;> rfl) (by go_simp <;> rfl) (by go_simp <;> rfl) (by go_simp <;> rfl) (by go_simp <;> rfl) (by go_simp <;> rfl)
  have HR := Lib.hid hr3
  clear hw3 ho3 hr3 pa pb pc pd pe pf pz
  go_wp2_with fail
  refine (Hg.out A c _ HR.out).mono ?_
  rintro e w4 ⟨rfl, hw4⟩
  have bw4 := below_of (w := w) (by go_grown) hw4
  obtain ⟨pa, pb, pc, pd, pe, pf, pz⟩ := cells3 (b := w1.heap.size) hw4 (by go_size) (by go_simp <;> rfl) (by go_simp <;> rfl) (by go_simp <;> rfl) (by go_simp <;> rfl) (by go_simp <;> rfl) (by go_simp <;> rfl)
  have HR4 := Lib.hid (HR.out.keep hw4)
  clear hw4 p'a p'b p'c p'd p'e p'f p'z
  go_upto_region 4 with fail
  have hb4 : Below w4.heap.size w4 (World.alloc w4 _) := (Below.refl _ w4).alloc (Nat.le_refl _) (Obj.cells #[.int .u64 (u q.a.hi), .int .u64 (u q.a.lo), .bool q.a.v6, .int .i64 q.n] 27)
  generalize hW : World.alloc _ _ = W
  have hz : w.heap.size ≤ W.heap.size := by subst hW; go_size
  have hB : Below w.heap.size w W := by subst hW; go_grown
  rw [hW] at hb4
  obtain ⟨p'a, p'b, p'c, p'd, p'e, p'f, p'z⟩ := cells3 (W := W) (b := w1.heap.size) (Below.refl _ W) (by subst hW; go_size) (by subst hW; go_simp <;> rfl) (by subst hW; go_simp <;> rfl) (by subst hW; go_simp <;> rfl) (by subst hW; go_simp <;> rfl) (by subst hW; go_simp <;> rfl) (by subst hW; go_simp <;> rfl)
  obtain ⟨ra, rb, rc, rg, rd, re, rf, rh, rz⟩ := cells4 (W := W) (b := w4.heap.size) (Below.refl _ W) (by subst hW; go_size) (by subst hW; go_simp <;> rfl) (by subst hW; go_simp <;> rfl) (by subst hW; go_simp <;> rfl) (by subst hW; go_simp <;> rfl) (by subst hW; go_simp <;> rfl) (by subst hW; go_simp <;> rfl) (by subst hW; go_simp <;> rfl) (by subst hW; go_simp <;> rfl)
  have hcv := (conv_rd (HR4.out.keep hb4)).trans (by rw [H5.out])
  clear hW pa pb pc pd pe pf pz hb4
  go_wp2
  go_ret
  exact ⟨rfl, hB⟩
theorem awake4_any (w : World) : Calls Try.prog 9 #[] w fun e w' => e = .returned (.bool true) ∧ Below w.heap.size w w' :=
  awake4_gen adA (getP [4, 8, 10]) [4, 8, 10] w exA_from exW exW2.1 exW2.2.1 rfl exW2.2.2.1 exW2.2.2.2 exW3

end Go.Proofs.Ytibhabglmkgaaaa

namespace Go.Proofs.Ytibhabglmkgaaaa.MixN
open Go.RowKit

/-- A call (operation i, slot d, of the one argument arg, whose value is y) and its reader (operation j, slot e), which yields s. -/
theorem run_madeFunc {P : Program} {o : Oper} {f : FuncId} {xs : Array Operand} {a : Act} {w : World} : (execOp a.eval { o with op := .makeFunc (.func f) xs #[] }).run P w = .ok (.value (.func (.func f) (xs.map a.eval) #[])) w := by
  simp [execOp, Instr.makeFunc]
structure Pair where
  i : Nat
  j : Nat
  d : Tmp
  e : Tmp
  args : Array Operand
  ys : Array Value
  s : Value
  f : FuncId
  Φ : Value → World → Prop

/-- What the walk sees in the place of an operation. -/
def virt : List Pair → Oper → Oper
  | [], o => o
  | p :: ps, o => if o.dst = some p.d then { o with op := .makeFunc (.func p.f) p.args #[] } else if o.dst = some p.e then { o with op := .move (.const p.s) } else virt ps o

theorem virt_same (ps : List Pair) (o : Oper) : (virt ps o).dst = o.dst ∧ (virt ps o).after = o.after ∧ (virt ps o).guard = o.guard := by
  induction ps with
  | nil => exact ⟨rfl, rfl, rfl⟩
  | cons p ps ih =>
    unfold virt
    split
    · exact ⟨rfl, rfl, rfl⟩
    · split
      · exact ⟨rfl, rfl, rfl⟩
      · exact ih
theorem virt_norm (ps : List Pair) (o : Oper) (h : ∀ p ∈ ps, o.dst ≠ some p.d ∧ o.dst ≠ some p.e) : virt ps o = o := by
  induction ps with
  | nil => rfl
  | cons p ps ih =>
    unfold virt
    rw [if_neg (h p (by simp)).1, if_neg (h p (by simp)).2]
    exact ih fun q hq => h q (by simp [hq])

section
variable {P : Program} {ops : Array Oper} {md : Region.Mode}

/-- The slots that the guard looks at. -/
def guardAt (ops : Array Oper) (o : Oper) : List Tmp :=
  match o.guard with
  | some (g, _) => ((ops[g]?).bind (·.dst)).toList
  | none => []

/-- What can be reckoned of a region and its pairs. -/
def mixB (ops : Array Oper) (ps : List Pair) : Bool :=
  ((List.range ops.size).all fun k => (List.range ops.size).all fun k' => k == k' || ((ops[k]?).bind (·.dst)) == none || ((ops[k]?).bind (·.dst)) != ((ops[k']?).bind (·.dst))) &&
  (ps.all fun p => ((ops[p.i]?).bind (·.dst)) == some p.d && ((ops[p.j]?).bind (·.dst)) == some p.e &&
    ((ops[p.j]?).map fun o => o.after.any fun e => Region.binds .any e && e.on == p.i).getD false) &&
  ((List.range ops.size).all fun k => ((ops[k]?).map fun o => ((guardAt ops o).all fun t => ps.all fun p => t != p.d) && (ps.any (fun p => k == p.i || k == p.j) || (o.looksAt ops).all fun t => ps.all fun p => t != p.d)).getD true)

theorem virt_size (ps : List Pair) : (ops.map (virt ps)).size = ops.size := by simp
theorem virt_get (ps : List Pair) (k : Nat) : (ops.map (virt ps))[k]? = (ops[k]?).map (virt ps) := by simp
theorem virt_ready (ps : List Pair) (listed : Array Bool) (k : Nat) : k ∈ Region.ready md (ops.map (virt ps)) listed ↔ k ∈ Region.ready md ops listed := by
  rw [mem_ready, mem_ready, virt_get]
  constructor
  · rintro ⟨h, o, ho, ha⟩
    cases hk : ops[k]? with
    | none => rw [hk] at ho; cases ho
    | some o' =>
      rw [hk] at ho
      obtain rfl : virt ps o' = o := by simpa using ho
      exact ⟨h, o', rfl, fun e he hb => ha e (by rw [(virt_same ps o').2.1]; exact he) hb⟩
  · rintro ⟨h, o, ho, ha⟩
    exact ⟨h, virt ps o, by rw [ho]; rfl, fun e he hb => ha e (by rw [(virt_same ps o).2.1] at he; exact he) hb⟩
theorem virt_yielded (ps : List Pair) (tmps : Array Value) (k : Nat) : yielded (ops.map (virt ps)) tmps k = yielded ops tmps k := by
  unfold yielded
  rw [virt_get]
  cases ops[k]? with
  | none => rfl
  | some o =>
    have : (virt ps o).dst = o.dst := (virt_same ps o).1
    simp [this]
theorem virt_wanted (ps : List Pair) (tmps : Array Value) (o : Oper) : Region.wanted (virt ps o) (yielded (ops.map (virt ps)) tmps) = Region.wanted o (yielded ops tmps) := by
  unfold Region.wanted
  rw [(virt_same ps o).2.2]
  cases o.guard with
  | none => rfl
  | some g => simp only [virt_yielded]

/-- A slot that no operation to come writes is the last frame's. -/
theorem end_slot {C : World → Prop} {F : Act} (t : Nat) : ∀ (fuel : Nat) (listed : Array Bool) (a : Act), (∀ k o, ops[k]? = some o → listed.getD k true = false → o.dst ≠ some t) →
    wpAnyQ P md ops C (· = F) fuel listed a → a.tmps[t]? = F.tmps[t]? := by
  intro fuel
  induction fuel with
  | zero => intro listed a _ h; rw [h.2]
  | succ fuel ih =>
    intro listed a hd h
    rcases hr : Region.ready md ops listed with _ | ⟨i, r⟩
    · rw [h.1 hr]
    · have hi : i ∈ Region.ready md ops listed := by rw [hr]; simp
      obtain ⟨hun, o, ho, _⟩ := mem_ready.1 hi
      obtain ⟨v, _, hK⟩ := yieldsIn_of_qOp ho (h.2 i hi)
      have := ih _ _ (fun k o' hk hl => by
        by_cases e : i = k
        · subst e
          exact hd i o' hk hun
        · rw [getD_set_ne true e] at hl
          exact hd k o' hk hl) hK
      rw [← this]
      have hne := hd i o ho hun
      cases hdst : o.dst with
      | none => rfl
      | some t' =>
        have : t' ≠ t := fun e => hne (by rw [hdst, e])
        simp [Act.put, Array.getElem?_setIfInBounds_ne this]

/-- The real frame r and the walk's frame a. -/
structure Rel (ps : List Pair) (B : Nat) (w0 : World) (listed : Array Bool) (a r : Act) (w : World) : Prop where
  size : r.tmps.size = a.tmps.size
  defers : r.defers = a.defers
  agree : ∀ t, (∀ p ∈ ps, t ≠ p.d) → r.tmps[t]? = a.tmps[t]?
  hid : ∀ p ∈ ps, listed.getD p.i false = true → p.Φ (r.eval (.tmp p.d)) w
  below : Below B w0 w

theorem Rel.eval {ps : List Pair} {B : Nat} {w0 : World} {listed : Array Bool} {a r : Act} {w : World} (R : Rel ps B w0 listed a r w) (x : Operand) (h : ∀ p ∈ ps, x ≠ .tmp p.d) : r.eval x = a.eval x := by
  cases x with
  | tmp t =>
    have := R.agree t fun p hp e => h p hp (by rw [e])
    simp only [Act.eval, Array.getD_eq_getD_getElem?, this]
  | _ => rfl
theorem Rel.exec {ps : List Pair} {B : Nat} {w0 : World} {listed : Array Bool} {a r : Act} {w : World} (R : Rel ps B w0 listed a r w) (o : Oper) (hs : ∀ cs b, o.op ≠ .select cs b) (h : ∀ t ∈ o.looksAt ops, ∀ p ∈ ps, t ≠ p.d) :
    execOp r.eval o = execOp a.eval o :=
  execOp_congr o hs fun x hx => R.eval x fun p hp e => by
    subst e
    exact h p.d (List.mem_append_left _ (List.mem_filterMap.2 ⟨.tmp p.d, by simpa using hx, rfl⟩)) p hp rfl
theorem Rel.wanted {ps : List Pair} {B : Nat} {w0 : World} {listed : Array Bool} {a r : Act} {w : World} (R : Rel ps B w0 listed a r w) (o : Oper) (h : ∀ t ∈ guardAt ops o, ∀ p ∈ ps, t ≠ p.d) :
    Region.wanted o (yielded ops r.tmps) = Region.wanted o (yielded ops a.tmps) := by
  unfold Region.wanted
  unfold guardAt at h
  cases hg : o.guard with
  | none => rfl
  | some gw =>
    obtain ⟨g, want⟩ := gw
    have hy : yielded ops r.tmps g = yielded ops a.tmps g := by
      unfold yielded
      cases ht : (ops[g]?).bind (·.dst) with
      | none => rfl
      | some t =>
        have := R.agree t (h t (by simp [hg, ht]))
        simp only [Option.bind_some, this]
    simp only [hy]
theorem Rel.put {ps : List Pair} {B : Nat} {w0 : World} {listed : Array Bool} {a r : Act} {w : World} (R : Rel ps B w0 listed a r w) (k : Nat) (dst : Option Tmp) (v : Value) (hk : ∀ p ∈ ps, k ≠ p.i) (hd : ∀ p ∈ ps, dst ≠ some p.d) :
    Rel ps B w0 (listed.setIfInBounds k true) (a.put dst v) (r.put dst v) w := by
  refine ⟨?_, ?_, fun t ht => ?_, fun p hp hl => ?_, R.below⟩
  · cases dst with
    | none => exact R.size
    | some t => simp [Act.put, R.size]
  · cases dst <;> exact R.defers
  · cases dst with
    | none => exact R.agree t ht
    | some t' =>
      simp only [Act.put, Array.getElem?_setIfInBounds, R.size]
      split
      · rfl
      · exact R.agree t ht
  · rw [getD_set_ne false (hk p hp)] at hl
    rw [Act.eval_put fun d e h => hd p hp (by rw [e]; injection h with h; rw [h])]
    exact R.hid p hp hl
theorem Rel.on {ps : List Pair} {B : Nat} {w0 : World} {listed : Array Bool} {a r : Act} {w w' : World} (hB : B ≤ w0.heap.size) (hkeep : ∀ p ∈ ps, ∀ v w w', p.Φ v w → Below w.heap.size w w' → p.Φ v w')
    (R : Rel ps B w0 listed a r w) (h : Below w.heap.size w w') : Rel ps B w0 listed a r w' :=
  ⟨R.size, R.defers, R.agree, fun p hp hl => hkeep p hp _ _ _ (R.hid p hp hl) h, R.below.trans (h.mono (Nat.le_trans hB R.below.size))⟩

/-- The class of the worlds later than W. -/
abbrev After (W : World) (w' : World) : Prop := ∃ x : Later W.heap.size W, w' = x.at

theorem mix_step {ps : List Pair} {B : Nat} {w0 : World} {F : Act} {fuel k : Nat} {o : Oper} {listed : Array Bool} {a : Act} (hdst : ∀ (k k' : Nat) (o o' : Oper) (t : Tmp), ops[k]? = some o → ops[k']? = some o' → o.dst = some t → o'.dst = some t → k = k')
    (ho : ops[k]? = some o) (hun : listed.getD k true = false)
    (h : ∀ W, Below B w0 W → qOp P (ops.map (virt ps)) (After W) k (wpAnyQ P md (ops.map (virt ps)) (After W) (· = F) fuel (listed.setIfInBounds k true)) a) (W : World) (hW : Below B w0 W) :
    ∃ v, YieldsIn P (ops.map (virt ps)) (After W) (virt ps o) v a ∧ (∀ W', Below B w0 W' → wpAnyQ P md (ops.map (virt ps)) (After W') (· = F) fuel (listed.setIfInBounds k true) (a.put o.dst v)) ∧
      ∀ t, o.dst = some t → (a.put o.dst v).tmps[t]? = F.tmps[t]? := by
  have ho' : (ops.map (virt ps))[k]? = some (virt ps o) := by rw [virt_get, ho]; rfl
  have hks : k < listed.size := by
    rcases Nat.lt_or_ge k listed.size with h' | h'
    · exact h'
    · simp [Array.getElem?_eq_none h'] at hun
  have key : ∀ W, Below B w0 W → ∃ v, YieldsIn P (ops.map (virt ps)) (After W) (virt ps o) v a ∧ wpAnyQ P md (ops.map (virt ps)) (After W) (· = F) fuel (listed.setIfInBounds k true) (a.put o.dst v) ∧
      ∀ t, o.dst = some t → (a.put o.dst v).tmps[t]? = F.tmps[t]? := by
    intro W hW
    obtain ⟨v, hy, hK⟩ := yieldsIn_of_qOp ho' (h W hW)
    rw [(virt_same ps o).1] at hK
    refine ⟨v, hy, hK, fun t ht => end_slot t fuel _ _ (fun k' o' hk' hl => ?_) hK⟩
    rw [virt_get] at hk'
    cases hk : ops[k']? with
    | none => rw [hk] at hk'; cases hk'
    | some o2 =>
      rw [hk] at hk'
      obtain rfl : virt ps o2 = o' := by simpa using hk'
      rw [(virt_same ps o2).1]
      intro e
      obtain rfl := hdst k k' o o2 t ho hk ht e
      simp [hks] at hl
  obtain ⟨v, hy, _, hv⟩ := key W hW
  refine ⟨v, hy, fun W' hW' => ?_, hv⟩
  obtain ⟨v', _, hK', hv'⟩ := key W' hW'
  have e : a.put o.dst v = a.put o.dst v' := by
    cases hd : o.dst with
    | none => rfl
    | some t =>
      have h1 := hv t hd
      have h2 := hv' t hd
      rw [hd] at h1 h2
      rcases Nat.lt_or_ge t a.tmps.size with hl | hl
      · simp [Act.put, hl] at h1 h2
        rw [← h2] at h1
        injection h1 with h1
        rw [h1]
      · simp [Act.put, Array.setIfInBounds_eq_of_size_le hl]
  rw [e]
  exact hK'

theorem mixB_spec {ps : List Pair} (h : mixB ops ps = true) :
    (∀ (k k' : Nat) (o o' : Oper) (t : Tmp), ops[k]? = some o → ops[k']? = some o' → o.dst = some t → o'.dst = some t → k = k') ∧
    (∀ p ∈ ps, ∃ oi oj : Oper, ops[p.i]? = some oi ∧ oi.dst = some p.d ∧ ops[p.j]? = some oj ∧ oj.dst = some p.e ∧ ∃ e ∈ oj.after, Region.binds .any e = true ∧ e.on = p.i) ∧
    (∀ (k : Nat) (o : Oper), ops[k]? = some o → (∀ t ∈ guardAt ops o, ∀ p ∈ ps, t ≠ p.d) ∧ ((∃ p ∈ ps, k = p.i ∨ k = p.j) ∨ ∀ t ∈ o.looksAt ops, ∀ p ∈ ps, t ≠ p.d)) := by
  unfold mixB at h
  simp only [Bool.and_eq_true] at h
  obtain ⟨⟨h1, h2⟩, h3⟩ := h
  refine ⟨fun k k' o o' t hk hk' ht ht' => ?_, fun p hp => ?_, fun k o hk => ?_⟩
  · have a1 : k < ops.size := (Array.getElem?_eq_some_iff.1 hk).1
    have a2 : k' < ops.size := (Array.getElem?_eq_some_iff.1 hk').1
    have h4 := List.all_eq_true.1 (List.all_eq_true.1 h1 k (List.mem_range.2 a1)) k' (List.mem_range.2 a2)
    rw [hk, hk'] at h4
    simpa [ht, ht'] using h4
  · have h4 := List.all_eq_true.1 h2 p hp
    simp only [Bool.and_eq_true, beq_iff_eq] at h4
    obtain ⟨⟨h5, h6⟩, h7⟩ := h4
    cases hi : ops[p.i]? with
    | none => rw [hi] at h5; cases h5
    | some oi =>
      cases hj : ops[p.j]? with
      | none => rw [hj] at h6; cases h6
      | some oj =>
        rw [hi] at h5
        rw [hj] at h6 h7
        simp only [Option.map_some, Option.getD_some] at h7
        obtain ⟨e, he, hb⟩ := Array.any_eq_true'.1 h7
        simp only [Bool.and_eq_true, beq_iff_eq] at hb
        exact ⟨oi, oj, rfl, h5, rfl, h6, e, he, hb.1, hb.2⟩
  · have a1 : k < ops.size := (Array.getElem?_eq_some_iff.1 hk).1
    have h4 := List.all_eq_true.1 h3 k (List.mem_range.2 a1)
    rw [hk] at h4
    simp only [Option.map_some, Option.getD_some, Bool.and_eq_true, Bool.or_eq_true] at h4
    obtain ⟨h5, h6⟩ := h4
    refine ⟨fun t ht p hp => ?_, ?_⟩
    · have := List.all_eq_true.1 (List.all_eq_true.1 h5 t ht) p hp
      simpa using this
    · rcases h6 with h6 | h6
      · obtain ⟨p, hp, hq⟩ := List.any_eq_true.1 h6
        exact .inl ⟨p, hp, by simpa using hq⟩
      · refine .inr fun t ht p hp => ?_
        have := List.all_eq_true.1 (List.all_eq_true.1 h6 t ht) p hp
        simpa using this

/-- What is asked of the pairs, besides what can be reckoned. -/
structure Fit (P : Program) (ops : Array Oper) (ps : List Pair) (B : Nat) (w0 : World) : Prop where
  prod : ∀ p ∈ ps, ∀ o : Oper, o.dst = some p.d → virt ps o = { o with op := .makeFunc (.func p.f) p.args #[] }
  read : ∀ p ∈ ps, ∀ o : Oper, o.dst = some p.e → virt ps o = { o with op := .move (.const p.s) }
  one : ∀ p ∈ ps, ∀ q ∈ ps, p.i = q.i → p = q
  arg : ∀ p ∈ ps, ∀ q ∈ ps, ∀ x ∈ p.args, x ≠ .tmp q.d
  apart : ∀ p ∈ ps, ∀ q ∈ ps, p.j ≠ q.i
  ne : ∀ p ∈ ps, p.s ≠ undef
  run : ∀ p ∈ ps, ∀ o : Oper, ops[p.i]? = some o → ∀ (a : Act) (w : World), (execOp a.eval o).run P w = .ok (.enter p.f (p.args.map a.eval)) w
  call : ∀ p ∈ ps, ∀ x : Later B w0, Calls P p.f p.ys x.at fun e w' => ∃ v, e = .returned v ∧ p.Φ v w' ∧ Below x.at.heap.size x.at w'
  reads : ∀ p ∈ ps, ∀ o : Oper, ops[p.j]? = some o → ∀ (a : Act) (w : World), p.Φ (a.eval (.tmp p.d)) w → (execOp a.eval o).run P w = .ok (.value p.s) w
  keep : ∀ p ∈ ps, ∀ v w w', p.Φ v w → Below w.heap.size w w' → p.Φ v w'

theorem mix_any {ps : List Pair} {B : Nat} {w0 : World} {F : Act} {Q : Exit → Act → World → Prop} (hm : mixB ops ps = true) (hsel : Region.noSelect ops = true) (hB : B ≤ w0.heap.size) (fit : Fit P ops ps B w0)
    (hF : ∀ p ∈ ps, F.tmps[p.d]? = some (.func (.func p.f) p.ys #[]) ∧ F.tmps[p.e]? = some p.s) (hQ : ∀ listed r w, Rel ps B w0 listed F r w → Q .normal r w) :
    ∀ (fuel : Nat) (listed : Array Bool) (a r : Act) (w : World), (∀ W, Below B w0 W → wpAnyQ P .any (ops.map (virt ps)) (After W) (· = F) fuel listed a) → Rel ps B w0 listed a r w → wpAny P .any ops Q fuel listed r w := by
  obtain ⟨m1, m2, m3⟩ := mixB_spec hm
  intro fuel
  induction fuel with
  | zero =>
    intro listed a r w h R
    have h0 := h w R.below
    obtain rfl : a = F := h0.2
    refine ⟨?_, hQ _ _ _ R⟩
    apply List.eq_nil_iff_forall_not_mem.2
    intro k hk
    have := (virt_ready ps listed k).2 hk
    rw [h0.1] at this
    cases this
  | succ fuel ih =>
    intro listed a r w h R
    have h0 := h w R.below
    refine ⟨fun hr => ?_, fun k hk => ?_⟩
    · have hr' : Region.ready .any (ops.map (virt ps)) listed = [] := by
        apply List.eq_nil_iff_forall_not_mem.2
        intro k hk
        have := (virt_ready ps listed k).1 hk
        rw [hr] at this
        cases this
      obtain rfl : a = F := h0.1 hr'
      exact hQ _ _ _ R
    · obtain ⟨hun, o, ho, hall⟩ := mem_ready.1 hk
      obtain ⟨v, hy, hK, hv⟩ := mix_step m1 ho hun (fun W hW => (h W hW).2 k ((virt_ready ps listed k).2 hk)) w R.below
      obtain ⟨g1, g2⟩ := m3 k o ho
      have hwant := R.wanted (ops := ops) o g1
      have hin : After w w := Later.mk (Below.refl _ _)
      unfold wpOp
      simp only [ho]
      rw [hwant]
      unfold YieldsIn at hy
      rw [virt_wanted] at hy
      by_cases hs : ∃ p ∈ ps, k = p.i ∨ k = p.j
      · obtain ⟨p, hp, hs⟩ := hs
        obtain ⟨oi, oj, hoi, hdi, hoj, hdj, e, he, hb, hon⟩ := m2 p hp
        obtain ⟨f1, f2⟩ := hF p hp
        have n2 := fit.ne p hp
        rcases hs with rfl | rfl
        · -- the call
          obtain rfl : oi = o := Option.some.inj (hoi.symm.trans ho)
          rw [hdi] at hv hK
          have hvd := hv p.d rfl
          rw [f1] at hvd
          have hlt : p.d < a.tmps.size := by
            rcases Nat.lt_or_ge p.d a.tmps.size with hl | hl
            · exact hl
            · simp [Act.put, hl] at hvd
          have hvy : v = .func (.func p.f) p.ys #[] := by simpa [Act.put, hlt] using hvd
          rcases hy with ⟨hw, hyy⟩ | ⟨hw, hyy⟩
          · rw [if_pos hw]
            refine .inl ?_
            have h1 := hyy w hin
            unfold Oper.quietAt at h1
            rw [fit.prod p hp oi hdi, run_madeFunc] at h1
            have harg : p.args.map a.eval = p.ys := by
              have h2 : Value.func (.func p.f) (p.args.map a.eval) #[] = v := h1.2
              rw [hvy] at h2
              injection h2
            have hrarg : p.args.map r.eval = p.ys := by
              rw [← harg]
              exact Array.map_congr_left fun x hx => R.eval x (fun q hq => fit.arg p hp q hq x hx)
            unfold Oper.wp
            rw [fit.run p hp oi ho r w, hrarg, Oper.upon_enter]
            refine (fit.call p hp ⟨w, R.below⟩).mono ?_
            rintro e' w' ⟨v', rfl, hΦ, hbel⟩
            show wpAny P .any ops Q fuel (listed.setIfInBounds p.i true) (r.put oi.dst v') w'
            rw [hdi]
            refine ih _ _ _ _ hK ?_
            have R' := R.on hB fit.keep hbel
            refine ⟨by simp [Act.put, R.size], by simp [Act.put, R.defers], fun t ht => ?_, fun q hq hl => ?_, R'.below⟩
            · have hne : p.d ≠ t := fun e => ht p hp e.symm
              simp only [Act.put, Array.getElem?_setIfInBounds_ne hne]
              exact R.agree t ht
            · by_cases hqi : p.i = q.i
              · obtain rfl := fit.one p hp q hq hqi
                have : (r.put (some p.d) v').eval (.tmp p.d) = v' := by
                  have hlr : p.d < r.tmps.size := by rw [R.size]; exact hlt
                  simp [Act.put, Act.eval, hlr]
                rw [this]
                exact hΦ
              · rw [getD_set_ne false hqi] at hl
                have hne : p.d ≠ q.d := by
                  intro e
                  obtain ⟨oq, _, hoq, hdq, _⟩ := m2 q hq
                  exact hqi (m1 p.i q.i oi oq p.d ho hoq hdi (by rw [e]; exact hdq))
                rw [Act.eval_put fun d e h => hne (by injection e with e; injection h with h; rw [e, h])]
                exact R'.hid q hq hl
          · rw [hvy] at hyy; cases hyy
        · -- the reader
          obtain rfl : oj = o := Option.some.inj (hoj.symm.trans ho)
          rw [hdj] at hv
          have hvd := hv p.e rfl
          rw [f2] at hvd
          have hlt : p.e < a.tmps.size := by
            rcases Nat.lt_or_ge p.e a.tmps.size with hl | hl
            · exact hl
            · simp [Act.put, hl] at hvd
          have hvy : v = p.s := by simpa [Act.put, hlt] using hvd
          rcases hy with ⟨hw, hyy⟩ | ⟨hw, hyy⟩
          · rw [if_pos hw]
            refine .inl ?_
            have hl := hall e he hb
            rw [hon] at hl
            unfold Oper.wp
            rw [fit.reads p hp oj ho r w (R.hid p hp hl), Oper.upon_value, ← hvy]
            refine ih _ _ _ _ hK (R.put _ _ _ (fun q hq e => ?_) (fun q hq e => ?_))
            · exact fit.apart p hp q hq e
            · obtain ⟨oq, _, hoq, hdq, _⟩ := m2 q hq
              exact fit.apart p hp q hq (m1 p.j q.i oj oq q.d ho hoq e hdq)
          · exact absurd (hvy.symm.trans hyy) n2
      · have hlook := g2.resolve_left hs
        have hnorm : virt ps o = o := virt_norm ps o fun p hp => by
          obtain ⟨oi, oj, hoi, hdi, hoj, hdj, _⟩ := m2 p hp
          refine ⟨fun e => hs ⟨p, hp, .inl (m1 k p.i o oi p.d ho hoi e hdi)⟩, fun e => hs ⟨p, hp, .inr (m1 k p.j o oj p.e ho hoj e hdj)⟩⟩
        have hki : ∀ p ∈ ps, k ≠ p.i := fun p hp e => hs ⟨p, hp, .inl e⟩
        have hkd : ∀ p ∈ ps, o.dst ≠ some p.d := fun p hp e => by
          obtain ⟨oi, oj, hoi, hdi, hoj, hdj, _⟩ := m2 p hp
          exact hs ⟨p, hp, .inl (m1 k p.i o oi p.d ho hoi e hdi)⟩
        rw [hnorm] at hy
        rcases hy with ⟨hw, hyy⟩ | ⟨hw, rfl⟩
        · rw [if_pos hw]
          refine .inl ?_
          have h1 := hyy w hin
          unfold Oper.quietAt at h1
          unfold Oper.wp
          rw [R.exec (ops := ops) o (fun cs b => Region.noSelect_spec hsel k o cs b ho) hlook]
          generalize (execOp a.eval o).run P w = res at *
          cases res with
          | ok n w' =>
            cases n <;> simp only [Oper.quietUpon] at h1 <;> simp only [Oper.upon]
            case value u' =>
              obtain ⟨e1, e2⟩ := h1
              rw [e1, e2]
              exact ih _ _ _ _ hK (R.put k o.dst v hki hkd)
            case skip =>
              obtain ⟨e1, e2⟩ := h1
              rw [e1, ← e2]
              exact ih _ _ _ _ hK (R.put k o.dst v hki hkd)
            case enter f args =>
              obtain ⟨e1, hc⟩ := h1
              rw [e1]
              refine hc.mono ?_
              rintro e w'' ⟨rfl, x, rfl⟩
              exact ih _ _ _ _ hK ((R.put k o.dst v hki hkd).on hB fit.keep x.below)
          | halt x w' => simp only [Oper.quietUpon] at h1
        · rw [if_neg (by rw [hw]; exact Bool.false_ne_true)]
          exact ih _ _ _ _ hK (R.put k o.dst undef hki hkd)

theorem Rel.one {p : Pair} {B : Nat} {w0 : World} {listed : Array Bool} {a r : Act} {w : World} (R : Rel [p] B w0 listed a r w) : ∃ v, r = a.put (some p.d) v := by
  refine ⟨r.eval (.tmp p.d), ?_⟩
  obtain ⟨ta, da⟩ := a
  obtain ⟨tr, dr⟩ := r
  have hs : tr.size = ta.size := R.size
  have hd : dr = da := R.defers
  subst hd
  simp only [Act.put, Act.eval, Act.mk.injEq, and_true]
  apply Array.ext_getElem?
  intro t
  rw [Array.getElem?_setIfInBounds]
  by_cases e : p.d = t
  · subst e
    rcases Nat.lt_or_ge p.d ta.size with hl | hl
    · have hl' : p.d < tr.size := by rw [hs]; exact hl
      simp [hl, hl']
    · simp [hs, hl]
  · rw [if_neg e]
    exact R.agree t (by simpa using fun h => e h.symm)
theorem Rel.two {p q : Pair} {B : Nat} {w0 : World} {listed : Array Bool} {a r : Act} {w : World} (R : Rel [p, q] B w0 listed a r w) : ∃ v v', r = (a.put (some p.d) v).put (some q.d) v' := by
  refine ⟨r.eval (.tmp p.d), r.eval (.tmp q.d), ?_⟩
  obtain ⟨ta, da⟩ := a
  obtain ⟨tr, dr⟩ := r
  have hs : tr.size = ta.size := R.size
  have hd : dr = da := R.defers
  subst hd
  simp only [Act.put, Act.eval, Act.mk.injEq, and_true]
  apply Array.ext_getElem?
  intro t
  rw [Array.getElem?_setIfInBounds, Array.getElem?_setIfInBounds]
  by_cases e : q.d = t
  · subst e
    rcases Nat.lt_or_ge q.d ta.size with hl | hl
    · have hl' : q.d < tr.size := by rw [hs]; exact hl
      simp [hl, hl']
    · simp [hs, hl]
  · rw [if_neg e]
    by_cases e2 : p.d = t
    · subst e2
      rcases Nat.lt_or_ge p.d ta.size with hl | hl
      · have hl' : p.d < tr.size := by rw [hs]; exact hl
        simp [hl, hl']
      · simp [hs, hl]
    · rw [if_neg e2]
      exact R.agree t (by simpa using ⟨fun h => e2 h.symm, fun h => e h.symm⟩)

/-- One walk in the order of the text serves every order. -/
theorem Rel.four {p q s z : Pair} {B : Nat} {w0 : World} {listed : Array Bool} {a r : Act} {w : World} (R : Rel [p, q, s, z] B w0 listed a r w) : ∃ v1 v2 v3 v4, r = (((a.put (some p.d) v1).put (some q.d) v2).put (some s.d) v3).put (some z.d) v4 := by
  refine ⟨r.eval (.tmp p.d), r.eval (.tmp q.d), r.eval (.tmp s.d), r.eval (.tmp z.d), ?_⟩
  obtain ⟨ta, da⟩ := a
  obtain ⟨tr, dr⟩ := r
  have hs : tr.size = ta.size := R.size
  have hd : dr = da := R.defers
  subst hd
  simp only [Act.put, Act.eval, Act.mk.injEq, and_true]
  apply Array.ext_getElem?
  intro t
  rw [Array.getElem?_setIfInBounds, Array.getElem?_setIfInBounds, Array.getElem?_setIfInBounds, Array.getElem?_setIfInBounds]
  have key : ∀ d : Nat, (if d < ta.size then some (tr.getD d undef) else none) = tr[d]? := by
    intro d
    rcases Nat.lt_or_ge d ta.size with hl | hl
    · have hl' : d < tr.size := by rw [hs]; exact hl
      simp [hl, hl']
    · simp [hs, hl]
  by_cases e4 : z.d = t
  · subst e4
    simpa using (key z.d).symm
  · rw [if_neg e4]
    by_cases e3 : s.d = t
    · subst e3
      simpa using (key s.d).symm
    · rw [if_neg e3]
      by_cases e2 : q.d = t
      · subst e2
        simpa using (key q.d).symm
      · rw [if_neg e2]
        by_cases e1 : p.d = t
        · subst e1
          simpa using (key p.d).symm
        · rw [if_neg e1]
          exact R.agree t (by simpa using ⟨fun h => e1 h.symm, fun h => e2 h.symm, fun h => e3 h.symm, fun h => e4 h.symm⟩)

theorem region_mix {id : Nat} {Q : Exit → Act → World → Prop} {a : Act} {w : World} {l : List Oper} (ps : List Pair) (B : Nat) (hm : P.follows .mixedOrders = true) (hx : mixB l.toArray ps = true) (hsel : Region.noSelect l.toArray = true)
    (hlex : Region.lexB .any (l.map (virt ps)).toArray = true) (hB : B ≤ w.heap.size) (fit : Fit P l.toArray ps B w)
    (h : ∃ F : Act, (∀ W, Below B w W → wpQuiet P (l.map (virt ps)).toArray (fun w' => ∃ x : Later W.heap.size W, w' = x.at) (fun a' => a' = F) (l.map (virt ps)) a) ∧ (∀ p ∈ ps, F.tmps[p.d]? = some (.func (.func p.f) p.ys #[]) ∧ F.tmps[p.e]? = some p.s) ∧
      ∀ listed r w', Rel ps B w listed F r w' → Q .normal r w') : (Code.region id l.toArray true).wp P Q a w := by
  obtain ⟨F, hwalk, hF, hQ⟩ := h
  simp only [Region.lexB, Bool.and_eq_true] at hlex
  refine wp_region_any hm (mix_any hx hsel hB fit hF hQ _ _ a a _ (fun W hW => ?_) ⟨rfl, rfl, fun _ _ => rfl, fun p hp hl => ?_, (Below.refl _ _).drew⟩)
  · have := wpAnyQ_lex (P := P) (C := After W) (Q := fun a' => a' = F) (md := .any) hlex.1 (l.map (virt ps)) 0 (Array.replicate (l.map (virt ps)).toArray.size false) a (by simp) (by simpa using hlex.2) (hwalk W hW)
    simpa using this
  · rw [getD_replicate_false] at hl
    cases hl

end
end Go.Proofs.Ytibhabglmkgaaaa.MixN

namespace Go.Proofs.Ytibhabglmkgaaaa
open Go.RowKit
set_option maxRecDepth 100000

set_option maxHeartbeats 1000000 in
theorem rgood_any (r : Rt) (w : World) : Calls Try.prog 22 #[.agg #[.int .u64 (u r.p.a.hi), .int .u64 (u r.p.a.lo), .bool r.p.a.v6, .int .i64 r.p.n, .int .i64 r.hop]] w fun e w' => e = .returned (.bool (rgood r)) ∧ Below w.heap.size w w' := by
  cases hs : psane r.p
  · have hr := Lib.hid (show rgood r = false by rw [rgood_of r _ hs]; rfl)
    have Hs := Lib.hid hs
    clear hs
    go_enter Try.func22, Try.ntmps22
    go_wp2_with fail
    refine (rpsane_any r.p _).mono ?_
    rintro e w1 ⟨rfl, hw1⟩
    have zw1 := hw1.size
    have bw1 := below_of (w := w) (by go_grown) hw1
    try simp at zw1
    rw [Hs.out]
    go_wp2
    go_ret
    exact ⟨ret_bool hr.out.symm, bw1⟩
  · by_cases h0 : 0 ≤ r.hop
    · have t0 : decide (0 ≤ r.hop) = true := by simp [h0]
      have hr := Lib.hid (show rgood r = decide (r.hop ≤ 65535) by rw [rgood_of r _ hs, t0]; rfl)
      have Hs := Lib.hid hs
      clear hs h0
      go_enter Try.func22, Try.ntmps22
      go_wp2_with fail
      refine (rpsane_any r.p _).mono ?_
      rintro e w1 ⟨rfl, hw1⟩
      have zw1 := hw1.size
      have bw1 := below_of (w := w) (by go_grown) hw1
      try simp at zw1
      rw [Hs.out]
      obtain ⟨pa, pb, pc, pg, pi, pd, pe, pf, ph, pj, pz⟩ := cells5 (b := w.heap.size) hw1 (by go_size) (by go_simp <;> rfl) (by go_simp <;> rfl) (by go_simp <;> rfl) (by go_simp <;> rfl) (by go_simp <;> rfl) (by go_simp <;> rfl) (by go_simp <;> rfl) (by go_simp <;> rfl) (by go_simp <;> rfl) (by go_simp <;> rfl)
      clear hw1
      go_wp2
      go_ret
      exact ⟨ret_bool hr.out.symm, bw1⟩
    · have t0 : decide (0 ≤ r.hop) = false := by simp [h0]
      have hr := Lib.hid (show rgood r = false by rw [rgood_of r _ hs, t0]; rfl)
      have Hs := Lib.hid hs
      clear hs h0
      go_enter Try.func22, Try.ntmps22
      go_wp2_with fail
      refine (rpsane_any r.p _).mono ?_
      rintro e w1 ⟨rfl, hw1⟩
      have zw1 := hw1.size
      have bw1 := below_of (w := w) (by go_grown) hw1
      try simp at zw1
      rw [Hs.out]
      obtain ⟨pa, pb, pc, pg, pi, pd, pe, pf, ph, pj, pz⟩ := cells5 (b := w.heap.size) hw1 (by go_size) (by go_simp <;> rfl) (by go_simp <;> rfl) (by go_simp <;> rfl) (by go_simp <;> rfl) (by go_simp <;> rfl) (by go_simp <;> rfl) (by go_simp <;> rfl) (by go_simp <;> rfl) (by go_simp <;> rfl) (by go_simp <;> rfl)
      clear hw1
      go_wp2
      go_ret
      exact ⟨ret_bool hr.out.symm, bw1⟩

/-- One byte in a block. -/
theorem rd_one {w : World} {g : Nat} {x : Int} (hg : w.heap[g]? = some (.cells #[.int .u8 x] 5 (0, 0))) (x0 : 0 ≤ x ∧ x < 256) : Rd w (some ⟨g, 0, none⟩) 1 [x] := by
  refine ⟨by simp, by simp only [maxLen]; omega, ?_, fun _ => ⟨g, 0, rfl, (Array.getElem?_eq_some_iff.1 hg).1, fun j hj => ?_⟩⟩
  · intro z hz
    simp at hz
    subst hz
    exact x0
  · rw [Nat.zero_add, cell_of_row w g j _ _ _ hg]
    simp at hj
    subst hj
    rfl

set_option maxHeartbeats 2000000 in
theorem rput_no (A : Option Addr) (c : Nat) (l : List Int) (p : Pf) (w : World) (h : Rd w A c l) (hb : l.length ≤ 400000) (hs : psane p = false) : Calls Try.prog 18 #[.slice A l.length c, .agg #[.int .u64 (u p.a.hi), .int .u64 (u p.a.lo), .bool p.a.v6, .int .i64 p.n]] w (RowPost w (l ++ putP p)) := by
  have HR := Lib.hid h
  have Hs := Lib.hid hs
  clear h hs
  go_enter Try.func18, Try.ntmps18
  go_upto_region 2 with (
    at_builtin
    refine wpList_bytes rfl (.tmp 6) (.tmp 7) rfl (w.heap.size + 1) _ 0 [] (by rfl) (own_lit (xs := bv []) (heap_new_at (by simp)) (Nat.le_refl _) (by simp only [maxLen]; omega) rfl) _ _ c l (by rfl) rfl (HR.out.keep (by go_grown)) (by omega) (by first | (simp; done) | (simp; omega)) ?_
    intro v1 w1 ho1 hb1
    have H1 := Lib.hid ho1
    have z1 : w.heap.size + 1 + 1 ≤ w1.heap.size := Nat.le_trans (by first | (simp; done) | (simp; omega)) hb1.size
    obtain ⟨pa, pb, pc, pg, pd, pe, pf, ph, pz⟩ := cut4 (b := w.heap.size) hb1 (by omega) (by omega) (by go_simp <;> rfl) (by go_simp <;> rfl) (by go_simp <;> rfl) (by go_simp <;> rfl) (by go_simp <;> rfl) (by go_simp <;> rfl) (by go_simp <;> rfl) (by go_simp <;> rfl)
    have bw1 : Below w.heap.size w w1 := Below.trans (by go_grown) (hb1.mono (Nat.le_succ _))
    clear ho1 hb1
    )
  go_wp2_with fail
  refine (rpsane_any p _).mono ?_
  rintro e w2 ⟨rfl, hw2⟩
  rw [Hs.out]
  have bw2 := bw1.trans (hw2.mono bw1.size)
  have H2 := Lib.hid (own_keep H1.out hw2)
  clear hw2 H1
  go_wp2
  go_ret
  have e0 : putP p = [] := by unfold putP; rw [Hs.out]; rfl
  rw [e0, List.append_nil]
  exact ⟨_, rfl, own_base (own_fit (show w2.ownsRow (w.heap.size + 1) 5 1 v1 _ (bv l) by simpa using H2.out)) (Nat.le_succ _), bw2⟩

theorem cut5 {B : Nat} {W w1 : World} {b : Nat} {c0 c1 c2 c3 c4 : Value} (hb : Below B W w1) (hz : B ≤ w1.heap.size) (hlt : b < B) (h0 : W.cell? ⟨b, 0, none⟩ = some c0) (h1 : W.cell? ⟨b, 1, none⟩ = some c1) (h2 : W.cell? ⟨b, 2, none⟩ = some c2) (h3 : W.cell? ⟨b, 3, none⟩ = some c3) (h4 : W.cell? ⟨b, 4, none⟩ = some c4)
    (f0 : W.frozen? ⟨b, 0, none⟩ = false) (f1 : W.frozen? ⟨b, 1, none⟩ = false) (f2 : W.frozen? ⟨b, 2, none⟩ = false) (f3 : W.frozen? ⟨b, 3, none⟩ = false) (f4 : W.frozen? ⟨b, 4, none⟩ = false) :
    w1.cell? ⟨b, 0, none⟩ = some c0 ∧ w1.cell? ⟨b, 1, none⟩ = some c1 ∧ w1.cell? ⟨b, 2, none⟩ = some c2 ∧ w1.cell? ⟨b, 3, none⟩ = some c3 ∧ w1.cell? ⟨b, 4, none⟩ = some c4 ∧
      w1.frozen? ⟨b, 0, none⟩ = false ∧ w1.frozen? ⟨b, 1, none⟩ = false ∧ w1.frozen? ⟨b, 2, none⟩ = false ∧ w1.frozen? ⟨b, 3, none⟩ = false ∧ w1.frozen? ⟨b, 4, none⟩ = false ∧ b < w1.heap.size :=
  ⟨(hb.cell hlt).trans h0, (hb.cell hlt).trans h1, (hb.cell hlt).trans h2, (hb.cell hlt).trans h3, (hb.cell hlt).trans h4, (hb.frozen hlt).trans f0, (hb.frozen hlt).trans f1, (hb.frozen hlt).trans f2, (hb.frozen hlt).trans f3, (hb.frozen hlt).trans f4, Nat.lt_of_lt_of_le hlt hz⟩

theorem keep4B {B : Nat} {W w' : World} {b : Nat} {c0 c1 c2 c3 : Value} (h : Below B W w') (h0 : W.cell? ⟨b, 0, none⟩ = some c0) (h1 : W.cell? ⟨b, 1, none⟩ = some c1) (h2 : W.cell? ⟨b, 2, none⟩ = some c2) (h3 : W.cell? ⟨b, 3, none⟩ = some c3) (e : B = b + 1 := by rfl) :
    w'.cell? ⟨b, 0, none⟩ = some c0 ∧ w'.cell? ⟨b, 1, none⟩ = some c1 ∧ w'.cell? ⟨b, 2, none⟩ = some c2 ∧ w'.cell? ⟨b, 3, none⟩ = some c3 ∧ Below B W w' := by
  have hb : b < B := by omega
  exact ⟨(h.cell hb).trans h0, (h.cell hb).trans h1, (h.cell hb).trans h2, (h.cell hb).trans h3, h⟩
set_option maxHeartbeats 8000000 in
theorem rput_yes (A : Option Addr) (c : Nat) (l : List Int) (p : Pf) (w : World) (h : Rd w A c l) (hb : l.length ≤ 400000) (hs : psane p = true) : Calls Try.prog 18 #[.slice A l.length c, .agg #[.int .u64 (u p.a.hi), .int .u64 (u p.a.lo), .bool p.a.v6, .int .i64 p.n]] w (RowPost w (l ++ putP p)) := by
  have n0 := ((psane_iff p).1 hs).2.1
  have n1 := ((psane_iff p).1 hs).2.2.1
  have hwd := wid_bd p.a.v6
  have hn := (need_le p.a.v6 p.n n0 n1).1
  have hnb := nb_le p.a.v6
  have hq : (p.n + 7) / 8 = ((need p.n : Nat) : Int) := (need_le p.a.v6 p.n n0 n1).2.symm
  have hn' : ((need p.n : Nat) : Int) ≤ ((nb p.a.v6 : Nat) : Int) := by omega
  have hu : IntKind.u8.wrap p.n = p.n := by rw [IntKind.wrap_u8]; omega
  have HP := Lib.hid (show putP p = [kindOf p.a.v6] ++ ([p.n] ++ (List.range (need p.n)).map (byteAt p.a)) by unfold putP; rw [if_pos hs]; rfl)
  have HR := Lib.hid h
  have Hs := Lib.hid hs
  clear h hs
  go_enter Try.func18, Try.ntmps18
  go_upto_region 2 with (
    at_builtin
    refine wpList_bytes rfl (.tmp 6) (.tmp 7) rfl (w.heap.size + 1) _ 0 [] (by rfl) (own_lit (xs := bv []) (heap_new_at (by simp)) (Nat.le_refl _) (by simp only [maxLen]; omega) rfl) _ _ c l (by rfl) rfl (HR.out.keep (by go_grown)) (by omega) (by first | (simp; done) | (simp; omega)) ?_
    intro v1 w1 ho1 hb1
    have H1 := Lib.hid ho1
    have z1 : w.heap.size + 1 + 1 ≤ w1.heap.size := Nat.le_trans (by first | (simp; done) | (simp; omega)) hb1.size
    obtain ⟨pa, pb, pc, pg, pd, pe, pf, ph, pz⟩ := cut4 (b := w.heap.size) hb1 (by omega) (by omega) (by go_simp <;> rfl) (by go_simp <;> rfl) (by go_simp <;> rfl) (by go_simp <;> rfl) (by go_simp <;> rfl) (by go_simp <;> rfl) (by go_simp <;> rfl) (by go_simp <;> rfl)
    have bw1 : Below w.heap.size w w1 := Below.trans (by go_grown) (hb1.mono (Nat.le_succ _))
    clear ho1 hb1
    )
  go_wp2_with fail
  refine (rpsane_any p _).mono ?_
  rintro e w2 ⟨rfl, hw2⟩
  rw [Hs.out]
  have bw2 := bw1.trans (hw2.mono bw1.size)
  have z2 : w.heap.size + 1 + 1 ≤ w2.heap.size := Nat.le_trans z1 hw2.size
  have H2 := Lib.hid (own_keep H1.out hw2)
  obtain ⟨qa, qb, qc, qg, qd, qe, qf, qh, qz⟩ := cells4 hw2 pz pa pb pc pg pd pe pf ph
  clear hw2 H1 pa pb pc pd pe pf pg ph pz
  go_upto_region 7 with (
    at_builtin
    first
      | (refine wpList_bytes (o := ⟨some 18, _, _, _, _, _⟩) rfl (.tmp 16) (.tmp 17) rfl (w.heap.size + 1) _ _ _ (by rfl) (H2.out.alloc _) _ _ 1 [6] (by rfl) rfl (rd_one (heap_alloc_new w2 _) (by omega)) (by simp; omega) (by simp; omega) ?_)
      | (refine wpList_bytes (o := ⟨some 21, _, _, _, _, _⟩) rfl (.tmp 19) (.tmp 20) rfl (w.heap.size + 1) _ _ _ (by rfl) (H2.out.alloc _) _ _ 1 [4] (by rfl) rfl (rd_one (heap_alloc_new w2 _) (by omega)) (by simp; omega) (by simp; omega) ?_)
    intro v3 w3 ho3 hb3
    )
  · rename p.a.v6 = true => hv
    have ek : kindOf p.a.v6 = 6 := by unfold kindOf; rw [hv]; rfl
    clear hv
    have HQ := Lib.hid (HP.out.trans (by rw [ek] : _ = [6] ++ ([p.n] ++ (List.range (need p.n)).map (byteAt p.a))))
    clear ek HP
    have z3 : w.heap.size + 1 + 1 ≤ w3.heap.size := Nat.le_trans (by first | (simp; done) | (simp; omega)) hb3.size
    obtain ⟨pa, pb, pc, pg, pd, pe, pf, ph, pz⟩ := cut4 (b := w.heap.size) hb3 (by omega) (by omega) (by go_simp <;> rfl) (by go_simp <;> rfl) (by go_simp <;> rfl) (by go_simp <;> rfl) (by go_simp <;> rfl) (by go_simp <;> rfl) (by go_simp <;> rfl) (by go_simp <;> rfl)
    have bw3 : Below w.heap.size w w3 := (bw2.alloc (by omega) _).trans (hb3.mono (Nat.le_succ _))
    have H3 := Lib.hid ho3
    clear ho3 hb3 H2 qa qb qc qd qe qf qg qh qz
    go_upto_region 8 with (
      at_builtin
      refine wpList_bytes rfl (.tmp 22) (.tmp 26) rfl (w.heap.size + 1) _ _ _ (by rfl) (H3.out.alloc _) _ _ 1 [p.n] (by rfl) rfl (rd_one (heap_alloc_new w3 _) (by omega)) (by simp; omega) (by simp; omega) ?_
      intro v4 w4 ho4 hb4
      )
    have z4 : w.heap.size + 1 + 1 ≤ w4.heap.size := Nat.le_trans (by first | (simp; done) | (simp; omega)) hb4.size
    obtain ⟨qa, qb, qc, qg, qd, qe, qf, qh, qz⟩ := cut4 (b := w.heap.size) hb4 (by omega) (by omega) (by go_simp <;> rfl) (by go_simp <;> rfl) (by go_simp <;> rfl) (by go_simp <;> rfl) (by go_simp <;> rfl) (by go_simp <;> rfl) (by go_simp <;> rfl) (by go_simp <;> rfl)
    have bw4 : Below w.heap.size w w4 := (bw3.alloc (by omega) _).trans (hb4.mono (Nat.le_succ _))
    have H4 := Lib.hid (own_fit ho4)
    clear ho4 hb4 H3 pa pb pc pd pe pf pg ph pz
    obtain ⟨W, rfl⟩ : ∃ W, W = w4 := ⟨_, rfl⟩
    have hs1 : IntKind.i64.wrap (p.n + 7) = p.n + 7 := by rw [IntKind.wrap_i64]; omega
    have hs2 : (p.n + 7).tdiv 8 = ((need p.n : Nat) : Int) := by rw [Int.tdiv_eq_ediv_of_nonneg (by omega)]; exact hq
    have hs3 : IntKind.i64.wrap ((need p.n : Nat) : Int) = ((need p.n : Nat) : Int) := by rw [IntKind.wrap_i64]; omega
    have hs4 : (0 : Int) ≤ ((need p.n : Nat) : Int) := by omega
    go_region_held3 (fun w' => w'.cell? ⟨w.heap.size, 0, none⟩ = some (.int .u64 (u p.a.hi)) ∧ w'.cell? ⟨w.heap.size, 1, none⟩ = some (.int .u64 (u p.a.lo)) ∧ w'.cell? ⟨w.heap.size, 2, none⟩ = some (.bool p.a.v6) ∧ w'.cell? ⟨w.heap.size, 3, none⟩ = some (.int .i64 p.n) ∧ Below (w.heap.size + 1) W w')
      (first | exact keep4B hk7 qa qb qc qg | exact keep4B hk5 qa qb qc qg | (refine keep4B ?_ qa qb qc qg; go_grown))
      (first
        | (go_at_call 37; refine (refBytes_full p.a _).mono ?_; rintro e w5 ⟨g, rfl, hg, hrow, hw5⟩; have hk5' := below_of (w := W) (by go_grown) hw5; have zk5 := hk5'.size; have hk5 : Below (w.heap.size + 1) W w5 := hk5'.mono (by omega); have H5 := Lib.hid (own_keep H4.out hk5'); have Hrow := Lib.hid hrow; clear hrow)
        | (refine step_bytes (o := ⟨some 37, _, _, _, _, _⟩) (by rfl) (.tmp 28) (.tmp 36) (by rfl) (w.heap.size + 1) _ _ _ (by rfl) H5.out _ _ _ ((List.range (need p.n)).map (byteAt p.a)) (by rfl) (by simp) (rd_row Hrow.out hn (by omega) (byteAt_bd p.a)) (by simp; omega) (by omega) ?_; intro v6 w7 hown7 hg7; have H7 := Lib.hid hown7; clear hown7; have hk7 : Below (w.heap.size + 1) W w7 := hk5.trans hg7))
    all_goals
      go_wp2
      go_ret
      rw [HQ.out]
      exact ⟨_, rfl, own_base (by simpa using own_fit H7.out) (Nat.le_succ _), bw4.trans (hk7.mono (Nat.le_succ _))⟩
  · rename p.a.v6 = false => hv
    have ek : kindOf p.a.v6 = 4 := by unfold kindOf; rw [hv]; rfl
    clear hv
    have HQ := Lib.hid (HP.out.trans (by rw [ek] : _ = [4] ++ ([p.n] ++ (List.range (need p.n)).map (byteAt p.a))))
    clear ek HP
    have z3 : w.heap.size + 1 + 1 ≤ w3.heap.size := Nat.le_trans (by first | (simp; done) | (simp; omega)) hb3.size
    obtain ⟨pa, pb, pc, pg, pd, pe, pf, ph, pz⟩ := cut4 (b := w.heap.size) hb3 (by omega) (by omega) (by go_simp <;> rfl) (by go_simp <;> rfl) (by go_simp <;> rfl) (by go_simp <;> rfl) (by go_simp <;> rfl) (by go_simp <;> rfl) (by go_simp <;> rfl) (by go_simp <;> rfl)
    have bw3 : Below w.heap.size w w3 := (bw2.alloc (by omega) _).trans (hb3.mono (Nat.le_succ _))
    have H3 := Lib.hid ho3
    clear ho3 hb3 H2 qa qb qc qd qe qf qg qh qz
    go_upto_region 8 with (
      at_builtin
      refine wpList_bytes rfl (.tmp 22) (.tmp 26) rfl (w.heap.size + 1) _ _ _ (by rfl) (H3.out.alloc _) _ _ 1 [p.n] (by rfl) rfl (rd_one (heap_alloc_new w3 _) (by omega)) (by simp; omega) (by simp; omega) ?_
      intro v4 w4 ho4 hb4
      )
    have z4 : w.heap.size + 1 + 1 ≤ w4.heap.size := Nat.le_trans (by first | (simp; done) | (simp; omega)) hb4.size
    obtain ⟨qa, qb, qc, qg, qd, qe, qf, qh, qz⟩ := cut4 (b := w.heap.size) hb4 (by omega) (by omega) (by go_simp <;> rfl) (by go_simp <;> rfl) (by go_simp <;> rfl) (by go_simp <;> rfl) (by go_simp <;> rfl) (by go_simp <;> rfl) (by go_simp <;> rfl) (by go_simp <;> rfl)
    have bw4 : Below w.heap.size w w4 := (bw3.alloc (by omega) _).trans (hb4.mono (Nat.le_succ _))
    have H4 := Lib.hid (own_fit ho4)
    clear ho4 hb4 H3 pa pb pc pd pe pf pg ph pz
    obtain ⟨W, rfl⟩ : ∃ W, W = w4 := ⟨_, rfl⟩
    have hs1 : IntKind.i64.wrap (p.n + 7) = p.n + 7 := by rw [IntKind.wrap_i64]; omega
    have hs2 : (p.n + 7).tdiv 8 = ((need p.n : Nat) : Int) := by rw [Int.tdiv_eq_ediv_of_nonneg (by omega)]; exact hq
    have hs3 : IntKind.i64.wrap ((need p.n : Nat) : Int) = ((need p.n : Nat) : Int) := by rw [IntKind.wrap_i64]; omega
    have hs4 : (0 : Int) ≤ ((need p.n : Nat) : Int) := by omega
    go_region_held3 (fun w' => w'.cell? ⟨w.heap.size, 0, none⟩ = some (.int .u64 (u p.a.hi)) ∧ w'.cell? ⟨w.heap.size, 1, none⟩ = some (.int .u64 (u p.a.lo)) ∧ w'.cell? ⟨w.heap.size, 2, none⟩ = some (.bool p.a.v6) ∧ w'.cell? ⟨w.heap.size, 3, none⟩ = some (.int .i64 p.n) ∧ Below (w.heap.size + 1) W w')
      (first | exact keep4B hk7 qa qb qc qg | exact keep4B hk5 qa qb qc qg | (refine keep4B ?_ qa qb qc qg; go_grown))
      (first
        | (go_at_call 37; refine (refBytes_full p.a _).mono ?_; rintro e w5 ⟨g, rfl, hg, hrow, hw5⟩; have hk5' := below_of (w := W) (by go_grown) hw5; have zk5 := hk5'.size; have hk5 : Below (w.heap.size + 1) W w5 := hk5'.mono (by omega); have H5 := Lib.hid (own_keep H4.out hk5'); have Hrow := Lib.hid hrow; clear hrow)
        | (refine step_bytes (o := ⟨some 37, _, _, _, _, _⟩) (by rfl) (.tmp 28) (.tmp 36) (by rfl) (w.heap.size + 1) _ _ _ (by rfl) H5.out _ _ _ ((List.range (need p.n)).map (byteAt p.a)) (by rfl) (by simp) (rd_row Hrow.out hn (by omega) (byteAt_bd p.a)) (by simp; omega) (by omega) ?_; intro v6 w7 hown7 hg7; have H7 := Lib.hid hown7; clear hown7; have hk7 : Below (w.heap.size + 1) W w7 := hk5.trans hg7))
    all_goals
      go_wp2
      go_ret
      rw [HQ.out]
      exact ⟨_, rfl, own_base (by simpa using own_fit H7.out) (Nat.le_succ _), bw4.trans (hk7.mono (Nat.le_succ _))⟩
theorem rput_any (A : Option Addr) (c : Nat) (l : List Int) (p : Pf) (w : World) (h : Rd w A c l) (hb : l.length ≤ 400000) : Calls Try.prog 18 #[.slice A l.length c, .agg #[.int .u64 (u p.a.hi), .int .u64 (u p.a.lo), .bool p.a.v6, .int .i64 p.n]] w (RowPost w (l ++ putP p)) := by
  cases hs : psane p
  · exact rput_no A c l p w h hb hs
  · exact rput_yes A c l p w h hb hs

end Go.Proofs.Ytibhabglmkgaaaa

namespace Go.Proofs.Ytibhabglmkgaaaa
open Go.RowKit
set_option maxRecDepth 100000

set_option maxHeartbeats 2000000 in
theorem rputRoute_any (A : Option Addr) (c : Nat) (l : List Int) (r : Rt) (w : World) (h : Rd w A c l) (hb : l.length ≤ 300000) : Calls Try.prog 20 #[.slice A l.length c, .agg #[.int .u64 (u r.p.a.hi), .int .u64 (u r.p.a.lo), .bool r.p.a.v6, .int .i64 r.p.n, .int .i64 r.hop]] w (RowPost w (l ++ putR r)) := by
  have HR := Lib.hid h
  have hbd := Lib.hid h.2.2.1
  clear h
  cases hs : rgood r
  · have Hs := Lib.hid hs
    clear hs
    go_enter Try.func20, Try.ntmps20
    go_upto_region 2 with (
      at_builtin
      refine wpList_bytes rfl (.tmp 6) (.tmp 7) rfl (w.heap.size + 1) _ 0 [] (by rfl) (own_lit (xs := bv []) (heap_new_at (by simp)) (Nat.le_refl _) (by simp only [maxLen]; omega) rfl) _ _ c l (by rfl) rfl (HR.out.keep (by go_grown)) (by omega) (by first | (simp; done) | (simp; omega)) ?_
      intro v1 w1 ho1 hb1
      have H1 := Lib.hid ho1
      have z1 : w.heap.size + 1 + 1 ≤ w1.heap.size := Nat.le_trans (by first | (simp; done) | (simp; omega)) hb1.size
      obtain ⟨pa, pb, pc, pg, pi, pd, pe, pf, ph, pj, pz⟩ := cut5 (b := w.heap.size) hb1 (by omega) (by omega) (by go_simp <;> rfl) (by go_simp <;> rfl) (by go_simp <;> rfl) (by go_simp <;> rfl) (by go_simp <;> rfl) (by go_simp <;> rfl) (by go_simp <;> rfl) (by go_simp <;> rfl) (by go_simp <;> rfl) (by go_simp <;> rfl)
      have bw1 : Below w.heap.size w w1 := Below.trans (by go_grown) (hb1.mono (Nat.le_succ _))
      clear ho1 hb1
      )
    go_wp2_with fail
    refine (rgood_any r _).mono ?_
    rintro e w2 ⟨rfl, hw2⟩
    rw [Hs.out]
    have bw2 := bw1.trans (hw2.mono bw1.size)
    have H2 := Lib.hid (own_keep H1.out hw2)
    clear hw2 H1
    go_wp2
    go_ret
    have e0 : putR r = [] := by unfold putR; rw [Hs.out]; rfl
    rw [e0, List.append_nil]
    exact ⟨_, rfl, own_base (own_fit (show w2.ownsRow (w.heap.size + 1) 5 1 v1 _ (bv l) by simpa using H2.out)) (Nat.le_succ _), bw2⟩
  · have n0 := ((rgood_iff r).1 hs).2.1
    have n1 := ((rgood_iff r).1 hs).2.2
    have hu1 : IntKind.u8.wrap (r.hop / 256) = r.hop / 256 := by rw [IntKind.wrap_u8]; omega
    have hu2 : IntKind.u8.wrap (r.hop % 256) = r.hop % 256 := by rw [IntKind.wrap_u8]; omega
    have x0 : 0 ≤ r.hop / 256 ∧ r.hop / 256 < 256 := by omega
    have y0 : 0 ≤ r.hop % 256 ∧ r.hop % 256 < 256 := by omega
    have hle := putP_le r.p
    have HQ := Lib.hid (show l ++ putR r = (l ++ putP r.p) ++ [r.hop / 256, r.hop % 256] by unfold putR; rw [if_pos hs, List.append_assoc])
    have Hs := Lib.hid hs
    clear hs
    go_enter Try.func20, Try.ntmps20
    go_upto_region 2 with (
      at_builtin
      refine wpList_bytes rfl (.tmp 6) (.tmp 7) rfl (w.heap.size + 1) _ 0 [] (by rfl) (own_lit (xs := bv []) (heap_new_at (by simp)) (Nat.le_refl _) (by simp only [maxLen]; omega) rfl) _ _ c l (by rfl) rfl (HR.out.keep (by go_grown)) (by omega) (by first | (simp; done) | (simp; omega)) ?_
      intro v1 w1 ho1 hb1
      have H1 := Lib.hid ho1
      have z1 : w.heap.size + 1 + 1 ≤ w1.heap.size := Nat.le_trans (by first | (simp; done) | (simp; omega)) hb1.size
      obtain ⟨pa, pb, pc, pg, pi, pd, pe, pf, ph, pj, pz⟩ := cut5 (b := w.heap.size) hb1 (by omega) (by omega) (by go_simp <;> rfl) (by go_simp <;> rfl) (by go_simp <;> rfl) (by go_simp <;> rfl) (by go_simp <;> rfl) (by go_simp <;> rfl) (by go_simp <;> rfl) (by go_simp <;> rfl) (by go_simp <;> rfl) (by go_simp <;> rfl)
      have bw1 : Below w.heap.size w w1 := Below.trans (by go_grown) (hb1.mono (Nat.le_succ _))
      clear ho1 hb1
      )
    obtain ⟨_, X, cx, rfl, hr1⟩ := own_rd (l := l) (show w1.ownsRow (w.heap.size + 1) 5 1 v1 l.length (bv l) by simpa using H1.out) hbd.out
    clear H1
    go_wp2_with fail
    refine (rgood_any r _).mono ?_
    rintro e w2 ⟨rfl, hw2⟩
    rw [Hs.out]
    have bw2 := bw1.trans (hw2.mono bw1.size)
    have z2 : w.heap.size + 1 + 1 ≤ w2.heap.size := Nat.le_trans z1 hw2.size
    have HX2 := Lib.hid (hr1.keep hw2)
    obtain ⟨qa, qb, qc, qg, qi, qd, qe, qf, qh, qj, qz⟩ := cells5 hw2 pz pa pb pc pg pi pd pe pf ph pj
    clear hw2 hr1 pa pb pc pd pe pf pg ph pi pj pz
    go_wp2_with fail
    refine (rput_any X cx l r.p _ HX2.out (by omega)).mono ?_
    rintro e w3 ⟨v3, rfl, ho3, hw3⟩
    have bw3 := bw2.trans (hw3.mono bw2.size)
    have z3 : w.heap.size + 1 + 1 ≤ w3.heap.size := Nat.le_trans z2 hw3.size
    have H3 := Lib.hid (own_base (base' := w.heap.size + 1) ho3 (by omega))
    obtain ⟨pa, pb, pc, pg, pi, pd, pe, pf, ph, pj, pz⟩ := cells5 hw3 qz qa qb qc qg qi qd qe qf qh qj
    clear hw3 ho3 qa qb qc qd qe qf qg qh qi qj qz HX2
    go_wp2_with (
      at_builtin
      refine wpList_bytes rfl (.tmp 15) (.tmp 24) rfl (w.heap.size + 1) _ _ _ (by rfl) (H3.out.alloc _) _ _ 2 [r.hop / 256, r.hop % 256] (by rfl) rfl (rd_two (heap_alloc_new w3 _) x0 y0) (by simp; omega) (by simp; omega) ?_
      intro v4 w4 ho4 hb4
      have H4 := Lib.hid (own_fit ho4)
      have bw4 : Below w.heap.size w w4 := (bw3.alloc (by omega) _).trans (hb4.mono (Nat.le_succ _))
      clear ho4 hb4
      )
    go_ret
    rw [HQ.out]
    exact ⟨_, rfl, own_base H4.out (Nat.le_succ _), bw4⟩

set_option maxHeartbeats 2000000 in
theorem rget_bad (A : Option Addr) (c : Nat) (l : List Int) (w : World) (h : Rd w A c l) (he : headE l ≠ 0) :
    Calls Try.prog 11 #[.slice A l.length c] w fun e w' => e = .returned (.tuple #[.agg #[.int .u64 0, .int .u64 0, .bool false, .int .i64 0], .int .i64 0, .int .i64 (headE l)]) ∧ Below w.heap.size w w' := by
  have hmk4 : ∀ W : World, (Instr.makeSlice 22 (.int .i64 4) (.int .i64 4)).run Try.prog W = .ok (.slice (some ⟨W.heap.size, 0, none⟩) 4 4) (W.alloc (.cells (madeCells #[.int .u8 0] 4) 5)) := fun W => run_make_row' (P := Try.prog) 22 5 (.int .u8 0) 1 Try.underlying22 info_u8 rfl .i64 .i64 4 (by omega) (by omega) W
  have hmk6 : ∀ W : World, (Instr.makeSlice 22 (.int .i64 16) (.int .i64 16)).run Try.prog W = .ok (.slice (some ⟨W.heap.size, 0, none⟩) 16 16) (W.alloc (.cells (madeCells #[.int .u8 0] 16) 5)) := fun W => run_make_row' (P := Try.prog) 22 5 (.int .u8 0) 1 Try.underlying22 info_u8 rfl .i64 .i64 16 (by omega) (by omega) W
  by_cases h2 : l.length < 2
  · have e6 := Lib.hid (show headE l = 6 by unfold headE; rw [if_pos h2])
    have t1 : decide ((l.length : Int) < 2) = true := by simp; omega
    clear h he h2
    go_enter Try.func11, Try.ntmps11
    go_wp2
    rw [e6.out]
    refine bodyPost_ret (v := .tuple #[.agg #[.int .u64 0, .int .u64 0, .bool false, .int .i64 0], .int .i64 0, .int .i64 6]) (by simp [*, results, Try.results11, go_sem] <;> rfl) rfl ⟨rfl, ?_⟩
    go_grown
  · obtain ⟨g, off, rfl, hg, hc⟩ := h.at_ (by omega)
    obtain ⟨b0, b1⟩ := at0_bd h.2.2.1 0
    obtain ⟨d0, d1⟩ := at0_bd h.2.2.1 1
    have hc0 := hc 0 (by omega)
    have hc1 := hc 1 (by omega)
    rw [Nat.add_zero] at hc0
    have t1 : decide ((l.length : Int) < 2) = false := by simp; omega
    have i0 : 0 < l.length := by omega
    have i1 : (1 : Int) < (l.length : Int) := by omega
    by_cases h5 : at0 l 0 ≠ 4 ∧ at0 l 0 ≠ 6
    · have e5 := Lib.hid (show headE l = 5 by unfold headE; rw [if_neg h2, if_pos h5])
      have t2 : (at0 l 0 != 4) = true := by simp [h5.1]
      have t3 : (at0 l 0 != 6) = true := by simp [h5.2]
      clear h he h2 hc h5
      go_enter Try.func11, Try.ntmps11
      go_wp2
      rw [e5.out]
      refine bodyPost_ret (v := .tuple #[.agg #[.int .u64 0, .int .u64 0, .bool false, .int .i64 0], .int .i64 0, .int .i64 5]) (by simp [*, results, Try.results11, go_sem] <;> rfl) rfl ⟨rfl, ?_⟩
      go_grown
    · by_cases h1 : wid (at0 l 0 == 6) < at0 l 1
      · have e1 := Lib.hid (show headE l = 1 by unfold headE; rw [if_neg h2, if_neg h5, if_pos h1])
        rw [e1.out]
        clear e1
        rcases (show at0 l 0 = 4 ∨ at0 l 0 = 6 by omega) with h6 | h6
        · rw [h6] at hc0 h1
          have t4 : decide (32 < at0 l 1) = true := by simpa [wid] using h1
          clear h he h2 hc h1 h5 b0 b1 h6
          go_enter Try.func11, Try.ntmps11
          go_wp2
          refine bodyPost_ret (v := .tuple #[.agg #[.int .u64 0, .int .u64 0, .bool false, .int .i64 0], .int .i64 0, .int .i64 1]) (by simp [*, results, Try.results11, go_sem] <;> rfl) rfl ⟨rfl, ?_⟩
          go_grown
        · rw [h6] at hc0 h1
          have t4 : decide (128 < at0 l 1) = true := by simpa [wid] using h1
          clear h he h2 hc h1 h5 b0 b1 h6
          go_enter Try.func11, Try.ntmps11
          go_upto_region 8 with fail
          generalize hW : World.alloc _ _ = W
          have hz : w.heap.size ≤ W.heap.size := by subst hW; go_size
          have hB : Below w.heap.size w W := by subst hW; go_grown
          obtain ⟨pa, pb, pc, pg, pd, pe, pf, ph, pz⟩ := cells4 (W := W) (b := w.heap.size) (Below.refl _ W) (by subst hW; go_size) (by subst hW; go_simp <;> rfl) (by subst hW; go_simp <;> rfl) (by subst hW; go_simp <;> rfl) (by subst hW; go_simp <;> rfl) (by subst hW; go_simp <;> rfl) (by subst hW; go_simp <;> rfl) (by subst hW; go_simp <;> rfl) (by subst hW; go_simp <;> rfl)
          have kc1 := (hB.cell (p := ⟨g, off + 1, none⟩) hg).trans hc1
          clear hW hmk4 hmk6
          go_wp2
          refine bodyPost_ret (v := .tuple #[.agg #[.int .u64 0, .int .u64 0, .bool false, .int .i64 0], .int .i64 0, .int .i64 1]) (by simp [*, results, Try.results11, go_sem] <;> rfl) rfl ⟨rfl, ?_⟩
          go_grown
      · exact absurd (by unfold headE; rw [if_neg h2, if_neg h5, if_neg h1]) he

theorem rowIs_made_at {W : World} {z : Value} {n b : Nat} {t : TypeId} (h : b = W.heap.size) : (W.alloc (.cells (madeCells #[z] n) t)).rowIs b t n (fun _ => z) := by subst h; exact World.rowIs_made W z n t
theorem firstK_succ (l : List Int) (k j : Nat) : firstK l (k + 1) j = if j = k then at0 l k else firstK l k j := by
  unfold firstK
  by_cases e : j = k
  · subst e
    rw [if_pos (Nat.lt_succ_self _), if_pos rfl]
  · rw [if_neg e]
    by_cases h : j < k
    · rw [if_pos (by omega), if_pos h]
    · rw [if_neg (by omega), if_neg h]

def digV (v : Bool) (n : Int) (l : List Int) : Value := if digE v n l = 0 then .tuple #[.agg #[.int .u64 (u (digP v n l).a.hi), .int .u64 (u (digP v n l).a.lo), .bool (digP v n l).a.v6, .int .i64 (digP v n l).n], .int .i64 (2 + need n : Nat), .int .i64 0] else .tuple #[.agg #[.int .u64 0, .int .u64 0, .bool false, .int .i64 0], .int .i64 0, .int .i64 (digE v n l)]
def WdigPost (w : World) (v : Bool) (n : Int) (l : List Int) (e : Ending) (w' : World) : Prop := e = .returned (digV v n l) ∧ Below w.heap.size w w'
theorem dig_mk {w : World} {v : Bool} {n : Int} {l : List Int} {x : Value} {w' : World} (h : x = digV v n l) (hb : Below w.heap.size w w') : WdigPost w v n l (.returned x) w' := ⟨by rw [h], hb⟩
set_option maxHeartbeats 4000000 in
theorem rget_ok (A : Option Addr) (c : Nat) (l : List Int) (w : World) (h : Rd w A c l) (he : headE l = 0) :
    Calls Try.prog 11 #[.slice A l.length c] w (WdigPost w (at0 l 0 == 6) (at0 l 1) (l.drop 2)) := by
  have hmk4 : ∀ W : World, (Instr.makeSlice 22 (.int .i64 4) (.int .i64 4)).run Try.prog W = .ok (.slice (some ⟨W.heap.size, 0, none⟩) 4 4) (W.alloc (.cells (madeCells #[.int .u8 0] 4) 5)) := fun W => run_make_row' (P := Try.prog) 22 5 (.int .u8 0) 1 Try.underlying22 info_u8 rfl .i64 .i64 4 (by omega) (by omega) W
  have hmk6 : ∀ W : World, (Instr.makeSlice 22 (.int .i64 16) (.int .i64 16)).run Try.prog W = .ok (.slice (some ⟨W.heap.size, 0, none⟩) 16 16) (W.alloc (.cells (madeCells #[.int .u8 0] 16) 5)) := fun W => run_make_row' (P := Try.prog) 22 5 (.int .u8 0) 1 Try.underlying22 info_u8 rfl .i64 .i64 16 (by omega) (by omega) W
  have h2 := head_len he
  have hw := head_wid he
  have hk := head_kind he
  obtain ⟨g, off, rfl, hg, hc⟩ := h.at_ (by omega)
  have HBD := Lib.hid h.2.2.1
  obtain ⟨d0, d1⟩ := at0_bd h.2.2.1 1
  have hc0 := hc 0 (by omega)
  have hc1 := hc 1 (by omega)
  rw [Nat.add_zero] at hc0
  have HC := Lib.hid hc
  have t1 : decide ((l.length : Int) < 2) = false := by simp; omega
  have i0 : 0 < l.length := by omega
  have i1 : (1 : Int) < (l.length : Int) := by omega
  clear h he hc
  rcases (show at0 l 0 = 4 ∨ at0 l 0 = 6 by unfold kindOf at hk; split at hk <;> omega) with h6 | h6
  · rw [h6] at hc0 hw ⊢
    have ev : ((4 : Int) == 6) = false := rfl
    rw [ev] at hw ⊢
    have hw' : at0 l 1 ≤ 32 := hw
    have t4 : decide (32 < at0 l 1) = false := by simp; omega
    have hn := need_le false (at0 l 1) d0 hw
    have hnb : nb false = 4 := rfl
    rw [hnb] at hn
    have hq : (at0 l 1 + 7) / 8 = ((need (at0 l 1) : Nat) : Int) := hn.2.symm
    have hle := hn.1
    clear h6 ev hw hk hn hnb
    rcases Nat.lt_or_ge l.length (2 + need (at0 l 1)) with hs | hs
    · have e6 := Lib.hid (show digE false (at0 l 1) (l.drop 2) = 6 by unfold digE; rw [if_pos (by rw [List.length_drop]; omega)])
      have t5 : decide ((l.length : Int) < 2 + ((need (at0 l 1) : Nat) : Int)) = true := by simp; omega
      go_enter Try.func11, Try.ntmps11
      go_upto_region 8 with fail
      generalize hW : World.alloc _ _ = W
      have hz : w.heap.size ≤ W.heap.size := by subst hW; go_size
      have hB : Below w.heap.size w W := by subst hW; go_grown
      obtain ⟨pa, pb, pc, pg, pd, pe, pf, ph, pz⟩ := cells4 (W := W) (b := w.heap.size) (Below.refl _ W) (by subst hW; go_size) (by subst hW; go_simp <;> rfl) (by subst hW; go_simp <;> rfl) (by subst hW; go_simp <;> rfl) (by subst hW; go_simp <;> rfl) (by subst hW; go_simp <;> rfl) (by subst hW; go_simp <;> rfl) (by subst hW; go_simp <;> rfl) (by subst hW; go_simp <;> rfl)
      have kc1 := (hB.cell (p := ⟨g, off + 1, none⟩) hg).trans hc1
      clear hW hmk4 hmk6
      go_wp2
      refine bodyPost_ret (v := .tuple #[.agg #[.int .u64 0, .int .u64 0, .bool false, .int .i64 0], .int .i64 0, .int .i64 6]) (by simp [*, results, Try.results11, go_sem] <;> rfl) rfl (dig_mk (by unfold digV; rw [e6.out]; rfl) ?_)
      go_grown
    · have t5 : decide ((l.length : Int) < 2 + ((need (at0 l 1) : Nat) : Int)) = false := by simp; omega
      go_enter Try.func11, Try.ntmps11
      go_upto_region 8 with fail
      generalize hW : World.alloc _ _ = W
      have hz : w.heap.size ≤ W.heap.size := by subst hW; go_size
      have hB : Below w.heap.size w W := by subst hW; go_grown
      have hrow : W.rowIs (w.heap.size + 1) 5 4 (fun j => .int .u8 (firstK (l.drop 2) 0 j)) := by
        subst hW
        exact (rowIs_made_at (by simp)).congr fun j _ => by unfold firstK; rw [if_neg (Nat.not_lt_zero j)]
      obtain ⟨pa, pb, pc, pg, pd, pe, pf, ph, pz⟩ := cells4 (W := W) (b := w.heap.size) (Below.refl _ W) (by subst hW; go_size) (by subst hW; go_simp <;> rfl) (by subst hW; go_simp <;> rfl) (by subst hW; go_simp <;> rfl) (by subst hW; go_simp <;> rfl) (by subst hW; go_simp <;> rfl) (by subst hW; go_simp <;> rfl) (by subst hW; go_simp <;> rfl) (by subst hW; go_simp <;> rfl)
      have kc1 := (hB.cell (p := ⟨g, off + 1, none⟩) hg).trans hc1
      have hgW := hrow.lt
      clear hW hmk4 hmk6
      have HRow := Lib.hid hrow
      clear hrow
      go_wp2_with fail
      go_loopw [8] (fun i wr => ∃ k : Nat, k ≤ need (at0 l 1) ∧ i = .int .i64 k ∧ Hid (wr.rowIs (w.heap.size + 1) 5 4 (fun j => .int .u8 (firstK (l.drop 2) k j))) ∧ Below (w.heap.size + 1) W wr) (fun i _ => need (at0 l 1) - (intOf i).toNat)
      case atStart => exact ⟨0, Nat.zero_le _, rfl, HRow, Below.refl _ _⟩
      case round =>
        obtain ⟨k, hk, rfl, hr, hb⟩ := hrel
        have hzr := hb.size
        by_cases hlt : k < need (at0 l 1)
        · have hlt' : (k : Int) < ((need (at0 l 1) : Nat) : Int) := by omega
          have hk0 : (0 : Int) ≤ (k : Int) := by omega
          have hk1 : (k : Int) < 4 := by omega
          have hk2 : 2 + (k : Int) < (l.length : Int) := by omega
          have hsrc := (hb.cell (p := ⟨g, off + (2 + k), none⟩) (by simp; omega)).trans ((hB.cell (p := ⟨g, off + (2 + k), none⟩) hg).trans (HC.out (2 + k) (by omega)))
          have hdst := hr.out.cell (i := k) (by omega)
          have hfr := hr.out.frozen k
          rw [show firstK (l.drop 2) k k = 0 by unfold firstK; rw [if_neg (Nat.lt_irrefl _)]] at hdst
          obtain ⟨s0, s1⟩ := at0_bd HBD.out (2 + k)
          go_wp2_with fail
          refine ⟨⟨k + 1, by omega, by go_num, Lib.hid ((hr.out.set k _).congr fun j _ => ?_), hb.setCell (by simp) _⟩, by simp [intOf]; omega⟩
          rw [firstK_succ]
          by_cases e : j = k
          · rw [if_pos e, if_pos e, at0_drop]
          · rw [if_neg e, if_neg e]
        · obtain rfl : k = need (at0 l 1) := by omega
          have hlt' : ¬ ((need (at0 l 1) : Nat) : Int) < ((need (at0 l 1) : Nat) : Int) := by omega
          obtain ⟨qa, qb, qc, qg, qd, qe, qf, qh, qz⟩ := cut4 (b := w.heap.size) hb (by omega) (by omega) pa pb pc pg pd pe pf ph
          have bwr : Below w.heap.size w wr := hB.trans (hb.mono (Nat.le_succ _))
          clear pa pb pc pd pe pf pg ph pz kc1 hb
          go_wp2_with fail
          refine (refFrom_any false (w.heap.size + 1) 0 4 (firstK (l.drop 2) (need (at0 l 1))) (fun j _ => firstK_bd (bd_drop HBD.out 2) _ j) wr hr.out.lt (fun j hj => ?_)).mono ?_
          · rw [Nat.zero_add]
            exact hr.out.cell hj
          rintro e w3 ⟨rfl, hw3⟩
          have bw3 := bwr.trans (hw3.mono bwr.size)
          obtain ⟨pa, pb, pc, pg, pd, pe, pf, ph, pz⟩ := cells4 hw3 qz qa qb qc qg qd qe qf qh
          have z3 := hw3.size
          clear qa qb qc qd qe qf qg qh qz hw3 hr
          go_wp2_with fail
          refine (rpsane_any (digP false (at0 l 1) (l.drop 2)) _).mono ?_
          rintro e w4 ⟨rfl, hw4⟩
          have bw4 := below_of (w := w) (by go_grown) hw4
          obtain ⟨qa, qb, qc, qg, qd, qe, qf, qh, qz⟩ := cells4 (b := w.heap.size) hw4 (by go_size) (by go_simp <;> rfl) (by go_simp <;> rfl) (by go_simp <;> rfl) (by go_simp <;> rfl) (by go_simp <;> rfl) (by go_simp <;> rfl) (by go_simp <;> rfl) (by go_simp <;> rfl)
          obtain ⟨ra, rb, rc, rg, rd, re, rf, rh, rz⟩ := cells4 (b := w3.heap.size + 1) hw4 (by go_size) (by go_simp <;> rfl) (by go_simp <;> rfl) (by go_simp <;> rfl) (by go_simp <;> rfl) (by go_simp <;> rfl) (by go_simp <;> rfl) (by go_simp <;> rfl) (by go_simp <;> rfl)
          clear hw4 pa pb pc pd pe pf pg ph pz
          have hdl : need (at0 l 1) ≤ (l.drop 2).length := by rw [List.length_drop]; omega
          cases hps : psane (digP false (at0 l 1) (l.drop 2))
          · have eD := Lib.hid (show digE false (at0 l 1) (l.drop 2) = 1 by unfold digE; rw [if_neg (by omega), hps]; rfl)
            clear hdl hps
            go_wp2
            refine bodyPost_ret (v := .tuple #[.agg #[.int .u64 0, .int .u64 0, .bool false, .int .i64 0], .int .i64 0, .int .i64 1]) (by simp [*, results, Try.results11, go_sem] <;> rfl) rfl (dig_mk (by unfold digV; rw [eD.out]; rfl) ?_)
            go_grown
          · have eD := Lib.hid (show digE false (at0 l 1) (l.drop 2) = 0 by unfold digE; rw [if_neg (by omega), hps]; rfl)
            clear hdl hps
            go_wp2
            refine bodyPost_ret (v := .tuple #[.agg #[.int .u64 (u (Pf.mk (fromv (firstK (l.drop 2) (need (at0 l 1))) false) (at0 l 1)).a.hi), .int .u64 (u (Pf.mk (fromv (firstK (l.drop 2) (need (at0 l 1))) false) (at0 l 1)).a.lo), .bool (Pf.mk (fromv (firstK (l.drop 2) (need (at0 l 1))) false) (at0 l 1)).a.v6, .int .i64 (Pf.mk (fromv (firstK (l.drop 2) (need (at0 l 1))) false) (at0 l 1)).n], .int .i64 (2 + (need (at0 l 1) : Int)), .int .i64 0]) (by simp [*, results, Try.results11, go_sem] <;> rfl) rfl (dig_mk (by unfold digV; rw [if_pos eD.out]; rfl) ?_)
            go_grown
  · rw [h6] at hc0 hw ⊢
    have ev : ((6 : Int) == 6) = true := rfl
    rw [ev] at hw ⊢
    have hw' : at0 l 1 ≤ 128 := hw
    have t4 : decide (128 < at0 l 1) = false := by simp; omega
    have hn := need_le true (at0 l 1) d0 hw
    have hnb : nb true = 16 := rfl
    rw [hnb] at hn
    have hq : (at0 l 1 + 7) / 8 = ((need (at0 l 1) : Nat) : Int) := hn.2.symm
    have hle := hn.1
    clear h6 ev hw hk hn hnb
    rcases Nat.lt_or_ge l.length (2 + need (at0 l 1)) with hs | hs
    · have e6 := Lib.hid (show digE true (at0 l 1) (l.drop 2) = 6 by unfold digE; rw [if_pos (by rw [List.length_drop]; omega)])
      have t5 : decide ((l.length : Int) < 2 + ((need (at0 l 1) : Nat) : Int)) = true := by simp; omega
      go_enter Try.func11, Try.ntmps11
      go_upto_region 8 with fail
      generalize hW : World.alloc _ _ = W
      have hz : w.heap.size ≤ W.heap.size := by subst hW; go_size
      have hB : Below w.heap.size w W := by subst hW; go_grown
      obtain ⟨pa, pb, pc, pg, pd, pe, pf, ph, pz⟩ := cells4 (W := W) (b := w.heap.size) (Below.refl _ W) (by subst hW; go_size) (by subst hW; go_simp <;> rfl) (by subst hW; go_simp <;> rfl) (by subst hW; go_simp <;> rfl) (by subst hW; go_simp <;> rfl) (by subst hW; go_simp <;> rfl) (by subst hW; go_simp <;> rfl) (by subst hW; go_simp <;> rfl) (by subst hW; go_simp <;> rfl)
      have kc1 := (hB.cell (p := ⟨g, off + 1, none⟩) hg).trans hc1
      clear hW hmk4 hmk6
      go_wp2
      refine bodyPost_ret (v := .tuple #[.agg #[.int .u64 0, .int .u64 0, .bool false, .int .i64 0], .int .i64 0, .int .i64 6]) (by simp [*, results, Try.results11, go_sem] <;> rfl) rfl (dig_mk (by unfold digV; rw [e6.out]; rfl) ?_)
      go_grown
    · have t5 : decide ((l.length : Int) < 2 + ((need (at0 l 1) : Nat) : Int)) = false := by simp; omega
      go_enter Try.func11, Try.ntmps11
      go_upto_region 8 with fail
      generalize hW : World.alloc _ _ = W
      have hz : w.heap.size ≤ W.heap.size := by subst hW; go_size
      have hB : Below w.heap.size w W := by subst hW; go_grown
      have hrow : W.rowIs (w.heap.size + 1 + 1) 5 16 (fun j => .int .u8 (firstK (l.drop 2) 0 j)) := by
        subst hW
        exact (rowIs_made_at (by simp)).congr fun j _ => by unfold firstK; rw [if_neg (Nat.not_lt_zero j)]
      obtain ⟨pa, pb, pc, pg, pd, pe, pf, ph, pz⟩ := cells4 (W := W) (b := w.heap.size) (Below.refl _ W) (by subst hW; go_size) (by subst hW; go_simp <;> rfl) (by subst hW; go_simp <;> rfl) (by subst hW; go_simp <;> rfl) (by subst hW; go_simp <;> rfl) (by subst hW; go_simp <;> rfl) (by subst hW; go_simp <;> rfl) (by subst hW; go_simp <;> rfl) (by subst hW; go_simp <;> rfl)
      have kc1 := (hB.cell (p := ⟨g, off + 1, none⟩) hg).trans hc1
      have hgW := hrow.lt
      clear hW hmk4 hmk6
      have HRow := Lib.hid hrow
      clear hrow
      go_wp2_with fail
      go_loopw [8] (fun i wr => ∃ k : Nat, k ≤ need (at0 l 1) ∧ i = .int .i64 k ∧ Hid (wr.rowIs (w.heap.size + 1 + 1) 5 16 (fun j => .int .u8 (firstK (l.drop 2) k j))) ∧ Below (w.heap.size + 1) W wr) (fun i _ => need (at0 l 1) - (intOf i).toNat)
      case atStart => exact ⟨0, Nat.zero_le _, rfl, HRow, Below.refl _ _⟩
      case round =>
        obtain ⟨k, hk, rfl, hr, hb⟩ := hrel
        have hzr := hb.size
        by_cases hlt : k < need (at0 l 1)
        · have hlt' : (k : Int) < ((need (at0 l 1) : Nat) : Int) := by omega
          have hk0 : (0 : Int) ≤ (k : Int) := by omega
          have hk1 : (k : Int) < 16 := by omega
          have hk2 : 2 + (k : Int) < (l.length : Int) := by omega
          have hsrc := (hb.cell (p := ⟨g, off + (2 + k), none⟩) (by simp; omega)).trans ((hB.cell (p := ⟨g, off + (2 + k), none⟩) hg).trans (HC.out (2 + k) (by omega)))
          have hdst := hr.out.cell (i := k) (by omega)
          have hfr := hr.out.frozen k
          rw [show firstK (l.drop 2) k k = 0 by unfold firstK; rw [if_neg (Nat.lt_irrefl _)]] at hdst
          obtain ⟨s0, s1⟩ := at0_bd HBD.out (2 + k)
          go_wp2_with fail
          refine ⟨⟨k + 1, by omega, by go_num, Lib.hid ((hr.out.set k _).congr fun j _ => ?_), hb.setCell (by simp) _⟩, by simp [intOf]; omega⟩
          rw [firstK_succ]
          by_cases e : j = k
          · rw [if_pos e, if_pos e, at0_drop]
          · rw [if_neg e, if_neg e]
        · obtain rfl : k = need (at0 l 1) := by omega
          have hlt' : ¬ ((need (at0 l 1) : Nat) : Int) < ((need (at0 l 1) : Nat) : Int) := by omega
          obtain ⟨qa, qb, qc, qg, qd, qe, qf, qh, qz⟩ := cut4 (b := w.heap.size) hb (by omega) (by omega) pa pb pc pg pd pe pf ph
          have bwr : Below w.heap.size w wr := hB.trans (hb.mono (Nat.le_succ _))
          clear pa pb pc pd pe pf pg ph pz kc1 hb
          go_wp2_with fail
          refine (refFrom_any true (w.heap.size + 1 + 1) 0 16 (firstK (l.drop 2) (need (at0 l 1))) (fun j _ => firstK_bd (bd_drop HBD.out 2) _ j) wr hr.out.lt (fun j hj => ?_)).mono ?_
          · rw [Nat.zero_add]
            exact hr.out.cell hj
          rintro e w3 ⟨rfl, hw3⟩
          have bw3 := bwr.trans (hw3.mono bwr.size)
          obtain ⟨pa, pb, pc, pg, pd, pe, pf, ph, pz⟩ := cells4 hw3 qz qa qb qc qg qd qe qf qh
          have z3 := hw3.size
          clear qa qb qc qd qe qf qg qh qz hw3 hr
          go_wp2_with fail
          refine (rpsane_any (digP true (at0 l 1) (l.drop 2)) _).mono ?_
          rintro e w4 ⟨rfl, hw4⟩
          have bw4 := below_of (w := w) (by go_grown) hw4
          obtain ⟨qa, qb, qc, qg, qd, qe, qf, qh, qz⟩ := cells4 (b := w.heap.size) hw4 (by go_size) (by go_simp <;> rfl) (by go_simp <;> rfl) (by go_simp <;> rfl) (by go_simp <;> rfl) (by go_simp <;> rfl) (by go_simp <;> rfl) (by go_simp <;> rfl) (by go_simp <;> rfl)
          obtain ⟨ra, rb, rc, rg, rd, re, rf, rh, rz⟩ := cells4 (b := w3.heap.size + 1) hw4 (by go_size) (by go_simp <;> rfl) (by go_simp <;> rfl) (by go_simp <;> rfl) (by go_simp <;> rfl) (by go_simp <;> rfl) (by go_simp <;> rfl) (by go_simp <;> rfl) (by go_simp <;> rfl)
          clear hw4 pa pb pc pd pe pf pg ph pz
          have hdl : need (at0 l 1) ≤ (l.drop 2).length := by rw [List.length_drop]; omega
          cases hps : psane (digP true (at0 l 1) (l.drop 2))
          · have eD := Lib.hid (show digE true (at0 l 1) (l.drop 2) = 1 by unfold digE; rw [if_neg (by omega), hps]; rfl)
            clear hdl hps
            go_wp2
            refine bodyPost_ret (v := .tuple #[.agg #[.int .u64 0, .int .u64 0, .bool false, .int .i64 0], .int .i64 0, .int .i64 1]) (by simp [*, results, Try.results11, go_sem] <;> rfl) rfl (dig_mk (by unfold digV; rw [eD.out]; rfl) ?_)
            go_grown
          · have eD := Lib.hid (show digE true (at0 l 1) (l.drop 2) = 0 by unfold digE; rw [if_neg (by omega), hps]; rfl)
            clear hdl hps
            go_wp2
            refine bodyPost_ret (v := .tuple #[.agg #[.int .u64 (u (Pf.mk (fromv (firstK (l.drop 2) (need (at0 l 1))) true) (at0 l 1)).a.hi), .int .u64 (u (Pf.mk (fromv (firstK (l.drop 2) (need (at0 l 1))) true) (at0 l 1)).a.lo), .bool (Pf.mk (fromv (firstK (l.drop 2) (need (at0 l 1))) true) (at0 l 1)).a.v6, .int .i64 (Pf.mk (fromv (firstK (l.drop 2) (need (at0 l 1))) true) (at0 l 1)).n], .int .i64 (2 + (need (at0 l 1) : Int)), .int .i64 0]) (by simp [*, results, Try.results11, go_sem] <;> rfl) rfl (dig_mk (by unfold digV; rw [if_pos eD.out]; rfl) ?_)
            go_grown

theorem rget_any (A : Option Addr) (c : Nat) (l : List Int) (w : World) (h : Rd w A c l) :
    Calls Try.prog 11 #[.slice A l.length c] w fun e w' => e = .returned (.tuple #[.agg #[.int .u64 (u (getP l).a.hi), .int .u64 (u (getP l).a.lo), .bool (getP l).a.v6, .int .i64 (getP l).n], .int .i64 (getN l), .int .i64 (getE l)]) ∧ Below w.heap.size w w' := by
  by_cases he : headE l = 0
  · have ee : getE l = digE (at0 l 0 == 6) (at0 l 1) (l.drop 2) := by unfold getE; rw [if_pos he]
    refine (rget_ok A c l w h he).mono fun e w' hh => ⟨hh.1.trans ?_, hh.2⟩
    unfold getP getN digV
    rw [ee]
    by_cases hd : digE (at0 l 0 == 6) (at0 l 1) (l.drop 2) = 0
    · rw [if_pos hd, if_pos hd, if_pos hd, hd]
    · rw [if_neg hd, if_neg hd, if_neg hd]
      rfl
  · have ee : getE l = headE l := by unfold getE; rw [if_neg he]
    refine (rget_bad A c l w h he).mono fun e w' hh => ⟨hh.1.trans ?_, hh.2⟩
    unfold getP getN
    rw [ee, if_neg he, if_neg he]
    rfl

end Go.Proofs.Ytibhabglmkgaaaa

namespace Go.Proofs.Ytibhabglmkgaaaa
open Go.RowKit
set_option maxRecDepth 100000

set_option maxHeartbeats 2000000 in
theorem rgetRoute_any (A : Option Addr) (c : Nat) (l : List Int) (w : World) (h : Rd w A c l) (hl : l.length ≤ 400000) :
    Calls Try.prog 13 #[.slice A l.length c] w fun e w' => e = .returned (.tuple #[.agg #[.int .u64 (u (grR l).p.a.hi), .int .u64 (u (grR l).p.a.lo), .bool (grR l).p.a.v6, .int .i64 (grR l).p.n, .int .i64 (grR l).hop], .int .i64 (grN l), .int .i64 (grE l)]) ∧ Below w.heap.size w w' := by
  have cG := fun (W : World) (k : Rd W A c l) => rget_any A c l W k
  by_cases he : getE l = 0
  · rw [he] at cG
    obtain ⟨n1, n2, n3⟩ := getN_le h.2.2.1 he
    rcases Nat.lt_or_ge (l.drop (getN l)).length 2 with h2 | h2
    · have e6 : grE l = 6 := by unfold grE hopE; rw [if_pos he, if_pos h2]
      have er : grR l = nilR := by unfold grR; rw [e6]; rfl
      have en : grN l = 0 := by unfold grN; rw [e6]; rfl
      rw [e6, er, en]
      rw [List.length_drop] at h2
      have t1 : decide ((l.length : Int) < (getN l : Int) + 2) = true := by simp; omega
      have HR := Lib.hid h
      have HG := Lib.hid cG
      clear h cG e6 er en he h2
      go_enter Try.func13, Try.ntmps13
      go_wp2_with fail
      refine (HG.out _ (HR.out.keep (by go_grown))).mono ?_
      rintro e w1 ⟨rfl, hw1⟩
      have bw1 := below_of (w := w) (by go_grown) hw1
      obtain ⟨pa, pb, pc, pg, pi, pd, pe, pf, ph, pj, pz⟩ := cells5 (b := w.heap.size) hw1 (by go_size) (by go_simp <;> rfl) (by go_simp <;> rfl) (by go_simp <;> rfl) (by go_simp <;> rfl) (by go_simp <;> rfl) (by go_simp <;> rfl) (by go_simp <;> rfl) (by go_simp <;> rfl) (by go_simp <;> rfl) (by go_simp <;> rfl)
      clear hw1
      go_wp2
      refine bodyPost_ret (v := .tuple #[.agg #[.int .u64 0, .int .u64 0, .bool false, .int .i64 0, .int .i64 0], .int .i64 0, .int .i64 6]) (by simp [*, results, Try.results13, go_sem] <;> rfl) rfl ⟨rfl, ?_⟩
      go_grown
    · have e6 : grE l = 0 := by unfold grE hopE; rw [if_pos he, if_neg (by omega)]
      have er : grR l = ⟨getP l, at0 l (getN l) * 256 + at0 l (getN l + 1)⟩ := by unfold grR; rw [if_pos e6]
      have en : ((grN l : Nat) : Int) = (getN l : Int) + 2 := by unfold grN; rw [if_pos e6]; omega
      rw [e6, er, en]
      rw [List.length_drop] at h2
      have t1 : decide ((l.length : Int) < (getN l : Int) + 2) = false := by simp; omega
      obtain ⟨x0, x1⟩ := at0_bd h.2.2.1 (getN l)
      obtain ⟨y0, y1⟩ := at0_bd h.2.2.1 (getN l + 1)
      obtain ⟨g, off, rfl, hg, hc⟩ := h.at_ (by omega)
      have hc0 := hc (getN l) (by omega)
      have hc1 := hc (getN l + 1) (by omega)
      have HR := Lib.hid h
      have HG := Lib.hid cG
      clear h cG e6 er en he hc
      go_enter Try.func13, Try.ntmps13
      go_wp2_with fail
      refine (HG.out _ (HR.out.keep (by go_grown))).mono ?_
      rintro e w1 ⟨rfl, hw1⟩
      have bw1 := below_of (w := w) (by go_grown) hw1
      have zw1 := hw1.size
      simp at zw1
      obtain ⟨pa, pb, pc, pg, pi, pd, pe, pf, ph, pj, pz⟩ := cells5 (b := w.heap.size) hw1 (by go_size) (by go_simp <;> rfl) (by go_simp <;> rfl) (by go_simp <;> rfl) (by go_simp <;> rfl) (by go_simp <;> rfl) (by go_simp <;> rfl) (by go_simp <;> rfl) (by go_simp <;> rfl) (by go_simp <;> rfl) (by go_simp <;> rfl)
      clear hw1
      go_wp2_with fail
      generalize hW : World.alloc _ _ = W
      have hz : w.heap.size ≤ W.heap.size := by subst hW; go_size
      have hB : Below w.heap.size w W := by subst hW; go_grown
      obtain ⟨qa, qb, qc, qg, qi, qd, qe, qf, qh, qj, qz⟩ := cells5 (W := W) (b := w.heap.size) (Below.refl _ W) (by subst hW; go_size) (by subst hW; go_simp <;> rfl) (by subst hW; go_simp <;> rfl) (by subst hW; go_simp <;> rfl) (by subst hW; go_simp <;> rfl) (by subst hW; go_simp <;> rfl) (by subst hW; go_simp <;> rfl) (by subst hW; go_simp <;> rfl) (by subst hW; go_simp <;> rfl) (by subst hW; go_simp <;> rfl) (by subst hW; go_simp <;> rfl)
      obtain ⟨ra, rb, rc, rg, rd, re, rf, rh, rz⟩ := cells4 (W := W) (b := w1.heap.size) (Below.refl _ W) (by subst hW; go_size) (by subst hW; go_simp <;> rfl) (by subst hW; go_simp <;> rfl) (by subst hW; go_simp <;> rfl) (by subst hW; go_simp <;> rfl) (by subst hW; go_simp <;> rfl) (by subst hW; go_simp <;> rfl) (by subst hW; go_simp <;> rfl) (by subst hW; go_simp <;> rfl)
      have hgW : g < W.heap.size := Nat.lt_of_lt_of_le hg hz
      have kc0 := (hB.cell (p := ⟨g, off + getN l, none⟩) hg).trans hc0
      have kc1 := (hB.cell (p := ⟨g, off + (getN l + 1), none⟩) hg).trans hc1
      clear hW pa pb pc pd pe pf pg ph pi pj pz
      have d1 : ¬ w.heap.size = w1.heap.size := by omega
      have d2 : ¬ w1.heap.size = w.heap.size := by omega
      have d3 : ¬ g = w.heap.size := by omega
      have d4 : ¬ w.heap.size = g := by omega
      have i0 : (0 : Int) ≤ (getN l : Int) := by omega
      have i1 : (getN l : Int) < (l.length : Int) := by omega
      have i2 : (0 : Int) ≤ (getN l : Int) + 1 := by omega
      have i3 : (getN l : Int) + 1 < (l.length : Int) := by omega
      have i4 : ((getN l : Int) + 1).toNat = getN l + 1 := by omega
      have m5 : IntKind.i64.wrap (at0 l (getN l)) = at0 l (getN l) := by rw [IntKind.wrap_i64]; omega
      have m6 : IntKind.i64.wrap (at0 l (getN l + 1)) = at0 l (getN l + 1) := by rw [IntKind.wrap_i64]; omega
      have m1 : IntKind.i64.wrap (at0 l (getN l) * 256) = at0 l (getN l) * 256 := by rw [IntKind.wrap_i64]; omega
      have m2 : IntKind.i64.wrap (at0 l (getN l) * 256 + at0 l (getN l + 1)) = at0 l (getN l) * 256 + at0 l (getN l + 1) := by rw [IntKind.wrap_i64]; omega
      have m3 : IntKind.i64.wrap ((getN l : Int) + 1) = (getN l : Int) + 1 := by rw [IntKind.wrap_i64]; omega
      have m4 : IntKind.i64.wrap ((getN l : Int) + 2) = (getN l : Int) + 2 := by rw [IntKind.wrap_i64]; omega
      go_region_held3 (fun w' => w'.cell? ⟨w1.heap.size, 0, none⟩ = some (.int .u64 (u (getP l).a.hi)) ∧ w'.cell? ⟨w1.heap.size, 1, none⟩ = some (.int .u64 (u (getP l).a.lo)) ∧ w'.cell? ⟨w1.heap.size, 2, none⟩ = some (.bool (getP l).a.v6) ∧ w'.cell? ⟨w1.heap.size, 3, none⟩ = some (.int .i64 (getP l).n) ∧ w'.cell? ⟨g, off + getN l, none⟩ = some (.int .u8 (at0 l (getN l))) ∧ w'.cell? ⟨g, off + (getN l + 1), none⟩ = some (.int .u8 (at0 l (getN l + 1)))) (go_keep) (fail)
      go_wp2
      refine bodyPost_ret (v := .tuple #[.agg #[.int .u64 (u (Rt.mk (getP l) (at0 l (getN l) * 256 + at0 l (getN l + 1))).p.a.hi), .int .u64 (u (Rt.mk (getP l) (at0 l (getN l) * 256 + at0 l (getN l + 1))).p.a.lo), .bool (Rt.mk (getP l) (at0 l (getN l) * 256 + at0 l (getN l + 1))).p.a.v6, .int .i64 (Rt.mk (getP l) (at0 l (getN l) * 256 + at0 l (getN l + 1))).p.n, .int .i64 (Rt.mk (getP l) (at0 l (getN l) * 256 + at0 l (getN l + 1))).hop], .int .i64 ((getN l : Int) + 2), .int .i64 0]) (by simp [*, results, Try.results13, go_sem] <;> rfl) rfl ⟨rfl, ?_⟩
      go_grown
  · have e6 : grE l = getE l := by unfold grE; rw [if_neg he]
    have er : grR l = nilR := by unfold grR; rw [e6, if_neg he]
    have en : grN l = 0 := by unfold grN; rw [e6, if_neg he]
    rw [e6, er, en]
    have t1 : (getE l != 0) = true := by simp [he]
    have HR := Lib.hid h
    have HG := Lib.hid cG
    clear h cG e6 er en he
    go_enter Try.func13, Try.ntmps13
    go_wp2_with fail
    refine (HG.out _ (HR.out.keep (by go_grown))).mono ?_
    rintro e w1 ⟨rfl, hw1⟩
    have bw1 := below_of (w := w) (by go_grown) hw1
    obtain ⟨pa, pb, pc, pg, pi, pd, pe, pf, ph, pj, pz⟩ := cells5 (b := w.heap.size) hw1 (by go_size) (by go_simp <;> rfl) (by go_simp <;> rfl) (by go_simp <;> rfl) (by go_simp <;> rfl) (by go_simp <;> rfl) (by go_simp <;> rfl) (by go_simp <;> rfl) (by go_simp <;> rfl) (by go_simp <;> rfl) (by go_simp <;> rfl)
    clear hw1
    go_wp2
    refine bodyPost_ret (v := .tuple #[.agg #[.int .u64 0, .int .u64 0, .bool false, .int .i64 0, .int .i64 0], .int .i64 0, .int .i64 (getE l)]) (by simp [*, results, Try.results13, go_sem] <;> rfl) rfl ⟨rfl, ?_⟩
    go_grown

/-- How far it has come, and what was read. -/
def AtRel (w : World) (l : List Int) (v i : Value) (wr : World) : Prop :=
  ∃ (rs : List Rt) (m : Nat), i = .int .i64 m ∧ m ≤ l.length ∧ wr.ownsRow w.heap.size 29 5 v rs.length (rtv rs) ∧ Below w.heap.size w wr ∧ rs.length ≤ m ∧ galE l = galE (l.drop m) ∧ galR l = if galE (l.drop m) = 0 then rs ++ galR (l.drop m) else []

set_option maxHeartbeats 2000000 in
theorem rgetAll_any (A : Option Addr) (c : Nat) (l : List Int) (w : World) (h : Rd w A c l) (hb : l.length ≤ 400000) : Calls Try.prog 15 #[.slice A l.length c] w (AllPost w l) := by
  have HR := Lib.hid h
  clear h
  go_enter Try.func15, Try.ntmps15
  go_wp2_with fail
  go_loopw [4, 5] (fun v i wr => AtRel w l v i wr) (fun _ i _ => l.length - (intOf i).toNat)
  case atStart => exact ⟨[], 0, rfl, Nat.zero_le _, World.ownsRow_nil _ _ _ _, Below.refl _ _, Nat.zero_le _, rfl, by split <;> rename_i hz <;> first | rfl | exact gal_err hz⟩
  case round =>
    obtain ⟨rs, m, rfl, hm, hown, hB, hlen, he1, he2⟩ := hrel
    have Hown := Lib.hid hown
    have HE1 := Lib.hid he1
    have HE2 := Lib.hid he2
    have hz := hB.size
    clear hown he1 he2
    by_cases h0 : m < l.length
    · have t0 : (m : Int) < (l.length : Int) := by omega
      have hd : (l.drop m).length = l.length - m := List.length_drop
      have hbd := Lib.hid (bd_drop HR.out.2.2.1 m)
      have hsl := fun W : World => slice_from A l.length c m hm W
      have cR := fun (W : World) (k : Rd W (cutA A c m) (c - m) (l.drop m)) => rgetRoute_any (cutA A c m) (c - m) (l.drop m) W k (by omega)
      rw [hd] at cR
      have HCR := Lib.hid cR
      have Hd := Lib.hid hd
      clear cR hd
      go_wp2_with fail
      refine (HCR.out _ ((HR.out.cut m hm).keep hB)).mono ?_
      rintro e w1 ⟨rfl, hw1⟩
      have bw1 := hB.trans (hw1.mono hz)
      have z1 := hw1.size
      have Ho1 := Lib.hid (own_keep Hown.out hw1)
      clear hw1 Hown HCR hsl
      by_cases he : grE (l.drop m) = 0
      · have t1 : (grE (l.drop m) != 0) = false := by simp [he]
        obtain ⟨n1, n2, n3⟩ := grN_bd hbd.out he
        rw [Hd.out] at n1
        obtain ⟨g1, g2⟩ := gal_go hbd.out (by rw [Hd.out]; omega) he
        rw [List.drop_drop] at g1 g2
        have G1 := Lib.hid g1
        have G2 := Lib.hid g2
        clear g1 g2 he
        go_wp2_with (
          at_builtin
          refine wpList_route rfl (.tmp 24) (.tmp 26) rfl w.heap.size _ rs (by rfl) ((Ho1.out.alloc _).alloc _) (w1.heap.size + 1) (grR (l.drop m)) (by rfl) (heap_new_at (by simp)) (by omega) (by simp; omega) ?_
          intro v1 w3 hown1 hb1
          have H1 := Lib.hid hown1
          have b3 : Below w.heap.size w w3 := ((bw1.alloc (by omega) _).alloc (by simp; omega) _).trans hb1
          clear hown1
          )
        refine ⟨⟨rs ++ [grR (l.drop m)], m + grN (l.drop m), by go_num, by omega, H1.out, b3, ?_, ?_, ?_⟩, ?_⟩
        · rw [List.length_append]
          simp
          omega
        · rw [HE1.out, G1.out]
        · rw [HE2.out, G1.out, G2.out]
          split <;> simp
        · simp [intOf]
          omega
      · have t1 : (grE (l.drop m) != 0) = true := by simp [he]
        obtain ⟨g2, g1⟩ := gal_bad (by rw [Hd.out]; omega) he
        have G1 := Lib.hid g1
        have HE := Lib.hid he
        clear g1 g2 he
        go_wp2
        go_ret2
        refine ⟨.slice none 0 0, ?_, ?_, ?_⟩
        · rw [HE1.out, G1.out]
          rfl
        · rw [HE2.out, G1.out, if_neg HE.out]
          exact World.ownsRow_nil _ _ _ _
        · go_grown
    · obtain rfl : m = l.length := by omega
      have t0 : ¬ (l.length : Int) < (l.length : Int) := by omega
      rw [List.drop_length] at HE1 HE2
      go_wp2
      go_ret2
      refine ⟨u4, ?_, ?_, hB⟩
      · rw [HE1.out]
        rfl
      · rw [HE2.out, if_pos gal_nil.2, gal_nil.1, List.append_nil]
        exact Hown.out

end Go.Proofs.Ytibhabglmkgaaaa

namespace Go.Proofs.Ytibhabglmkgaaaa
open Go.RowKit
set_option maxRecDepth 100000

/-- A row of these bytes. -/
def HeldI (b : List Int) (v : Value) (w : World) : Prop := ∃ A c, v = .slice A b.length c ∧ Rd w A c b
theorem HeldI.keep {b : List Int} {v : Value} {w w' : World} (h : HeldI b v w) (hb : Below w.heap.size w w') : HeldI b v w' := by
  obtain ⟨A, c, rfl, hr⟩ := h
  exact ⟨A, c, rfl, hr.keep hb⟩
theorem HeldI.conv {b : List Int} {v : Value} {w : World} (h : HeldI b v w) : (convert 22 9 v).run Try.prog w = .ok (.string (strOfNums b)) w := by
  obtain ⟨A, c, rfl, hr⟩ := h
  exact conv_rd hr
theorem row_held {P : Program} {f : FuncId} {args : Array Value} {w : World} {l : List Int} (hb : ∀ x ∈ l, 0 ≤ x ∧ x < 256) (h : Calls P f args w (RowPost w l)) : Calls P f args w fun e w' => ∃ v, e = .returned v ∧ HeldI l v w' ∧ Below w.heap.size w w' :=
  h.mono fun e w' ⟨v, he, ho, hw⟩ => by
    obtain ⟨_, A, c, hv, hr⟩ := own_rd ho hb
    exact ⟨v, he, ⟨A, c, hv, hr⟩, hw⟩
def p1 (b : Value) (p : Pf) (l : List Int) : MixN.Pair where
  i := 5
  j := 6
  d := 105
  e := 106
  args := #[.tmp 102, .tmp 104]
  ys := #[b, .agg #[.int .u64 (u p.a.hi), .int .u64 (u p.a.lo), .bool p.a.v6, .int .i64 p.n]]
  s := .string (strOfNums l)
  f := 17
  Φ := HeldI l
def p2 (b : Value) (p : Pf) (l : List Int) : MixN.Pair where
  i := 10
  j := 11
  d := 110
  e := 111
  args := #[.tmp 107, .tmp 109]
  ys := #[b, .agg #[.int .u64 (u p.a.hi), .int .u64 (u p.a.lo), .bool p.a.v6, .int .i64 p.n]]
  s := .string (strOfNums l)
  f := 18
  Φ := HeldI l
def p3 (b : Value) (r : Rt) (l : List Int) : MixN.Pair where
  i := 17
  j := 18
  d := 117
  e := 118
  args := #[.tmp 115, .tmp 116]
  ys := #[b, .agg #[.int .u64 (u r.p.a.hi), .int .u64 (u r.p.a.lo), .bool r.p.a.v6, .int .i64 r.p.n, .int .i64 r.hop]]
  s := .string (strOfNums l)
  f := 19
  Φ := HeldI l
def p4 (b : Value) (r : Rt) (l : List Int) : MixN.Pair where
  i := 21
  j := 22
  d := 121
  e := 122
  args := #[.tmp 119, .tmp 120]
  ys := #[b, .agg #[.int .u64 (u r.p.a.hi), .int .u64 (u r.p.a.lo), .bool r.p.a.v6, .int .i64 r.p.n, .int .i64 r.hop]]
  s := .string (strOfNums l)
  f := 20
  Φ := HeldI l
/-- No more routes than bytes. -/
theorem gal_le (l : List Int) (hb : ∀ x ∈ l, 0 ≤ x ∧ x < 256) : (galR l).length ≤ l.length := by
  have key : ∀ n, ∀ l : List Int, l.length ≤ n → (∀ x ∈ l, 0 ≤ x ∧ x < 256) → (galR l).length ≤ l.length := by
    intro n
    induction n with
    | zero =>
      intro l hn _
      have : l = [] := List.eq_nil_of_length_eq_zero (by omega)
      subst this
      exact Nat.le_refl _
    | succ n ih =>
      intro l hn hb
      by_cases h0 : l.length = 0
      · have : l = [] := List.eq_nil_of_length_eq_zero h0
        subst this
        exact Nat.le_refl _
      · by_cases he : grE l = 0
        · obtain ⟨n1, _, n3⟩ := grN_bd hb he
          have hd : (l.drop (grN l)).length = l.length - grN l := List.length_drop
          have := ih (l.drop (grN l)) (by omega) (bd_drop hb _)
          rw [(gal_go hb (by omega) he).2]
          split
          · rw [List.length_cons]; omega
          · simp
        · rw [(gal_bad (by omega) he).1]
          simp
  exact key l.length l (Nat.le_refl _) hb
theorem mem4 {α : Type} {P : α → Prop} {a b c d : α} (h1 : P a) (h2 : P b) (h3 : P c) (h4 : P d) : ∀ x ∈ [a, b, c, d], P x := by
  intro x hx
  simp at hx
  rcases hx with rfl | rfl | rfl | rfl <;> assumption

set_option maxHeartbeats 2000000 in
theorem wis_long (A : Option Addr) (c n : Nat) (r : Rt) (w : World) (hn : 1000 < n) : Calls Try.prog 3 #[.slice A n c, .agg #[.int .u64 (u r.p.a.hi), .int .u64 (u r.p.a.lo), .bool r.p.a.v6, .int .i64 r.p.n, .int .i64 r.hop]] w fun e w' => e = .returned (.bool true) ∧ Below w.heap.size w w' := by
  have t1 : decide (1000 < (n : Int)) = true := by simp; omega
  go_enter Try.func3, Try.ntmps3
  go_wp2_with fail
  refine (awake4_any _).mono ?_
  rintro e w1 ⟨rfl, hw1⟩
  have zw1 := hw1.size
  have bw1 := below_of (w := w) (by go_grown) hw1
  try simp at zw1
  go_wp2
  go_ret
  exact ⟨rfl, bw1⟩

set_option maxHeartbeats 8000000 in
theorem wis_short (A : Option Addr) (c : Nat) (l : List Int) (r : Rt) (w : World) (h : Rd w A c l) (hn : l.length ≤ 1000) : Calls Try.prog 3 #[.slice A l.length c, .agg #[.int .u64 (u r.p.a.hi), .int .u64 (u r.p.a.lo), .bool r.p.a.v6, .int .i64 r.p.n, .int .i64 r.hop]] w fun e w' => e = .returned (.bool true) ∧ Below w.heap.size w w' := by
  have t1 : decide (1000 < (l.length : Int)) = false := by simp; omega
  have l2 := gal_le l h.2.2.1
  have hb1 : ∀ x ∈ l ++ putP r.p, 0 ≤ x ∧ x < 256 := fun x hx => (List.mem_append.1 hx).elim (h.2.2.1 x) (bd_putP r.p x)
  have hb2 : ∀ x ∈ l ++ putR r, 0 ≤ x ∧ x < 256 := fun x hx => (List.mem_append.1 hx).elim (h.2.2.1 x) (bd_putR r x)
  have HR := Lib.hid h
  have B1 := Lib.hid hb1
  have B2 := Lib.hid hb2
  clear h hb1 hb2
  go_enter Try.func3, Try.ntmps3
  go_wp2_with fail
  refine (awake4_any _).mono ?_
  rintro e w1 ⟨rfl, hw1⟩
  have zw1 := hw1.size
  have bw1 := below_of (w := w) (by go_grown) hw1
  try simp at zw1
  obtain ⟨r1a, r1b, r1c, r1g, r1i, r1d, r1e, r1f, r1h, r1j, r1z⟩ := cells5 (b := w.heap.size) hw1 (by go_size) (by go_simp <;> rfl) (by go_simp <;> rfl) (by go_simp <;> rfl) (by go_simp <;> rfl) (by go_simp <;> rfl) (by go_simp <;> rfl) (by go_simp <;> rfl) (by go_simp <;> rfl) (by go_simp <;> rfl) (by go_simp <;> rfl)
  clear hw1
  go_wp2_with fail
  refine (get_any A c l _ (HR.out.keep (by go_grown))).mono ?_
  rintro e w2 ⟨rfl, hw2⟩
  have zw2 := hw2.size
  have bw2 := below_of (w := w) (by go_grown) hw2
  try simp at zw2
  have hw1b := below_of (w := w1) (by go_grown) hw2
  obtain ⟨r2a, r2b, r2c, r2g, r2i, r2d, r2e, r2f, r2h, r2j, r2z⟩ := cells5 hw1b r1z r1a r1b r1c r1g r1i r1d r1e r1f r1h r1j
  clear r1a r1b r1c r1g r1i r1d r1e r1f r1h r1j r1z hw2 hw1b
  go_wp2_with fail
  refine (rget_any A c l _ (HR.out.keep (by go_grown))).mono ?_
  rintro e w3 ⟨rfl, hw3⟩
  have zw3 := hw3.size
  have bw3 := below_of (w := w) (by go_grown) hw3
  try simp at zw3
  have hw2b := below_of (w := w2) (by go_grown) hw3
  obtain ⟨r3a, r3b, r3c, r3g, r3i, r3d, r3e, r3f, r3h, r3j, r3z⟩ := cells5 hw2b r2z r2a r2b r2c r2g r2i r2d r2e r2f r2h r2j
  obtain ⟨p3a, p3b, p3c, p3g, p3d, p3e, p3f, p3h, p3z⟩ := cells4 (b := w2.heap.size) hw3 (by go_size) (by go_simp <;> rfl) (by go_simp <;> rfl) (by go_simp <;> rfl) (by go_simp <;> rfl) (by go_simp <;> rfl) (by go_simp <;> rfl) (by go_simp <;> rfl) (by go_simp <;> rfl)
  clear r2a r2b r2c r2g r2i r2d r2e r2f r2h r2j r2z hw3 hw2b
  go_wp2_with fail
  refine (getRoute_any A c l _ (HR.out.keep (by go_grown))).mono ?_
  rintro e w4 ⟨rfl, hw4⟩
  have zw4 := hw4.size
  have bw4 := below_of (w := w) (by go_grown) hw4
  try simp at zw4
  have hw3b := below_of (w := w3) (by go_grown) hw4
  obtain ⟨r4a, r4b, r4c, r4g, r4i, r4d, r4e, r4f, r4h, r4j, r4z⟩ := cells5 hw3b r3z r3a r3b r3c r3g r3i r3d r3e r3f r3h r3j
  obtain ⟨p4a, p4b, p4c, p4g, p4d, p4e, p4f, p4h, p4z⟩ := cells4 hw3b p3z p3a p3b p3c p3g p3d p3e p3f p3h
  obtain ⟨q4a, q4b, q4c, q4g, q4d, q4e, q4f, q4h, q4z⟩ := cells4 (b := w3.heap.size) hw4 (by go_size) (by go_simp <;> rfl) (by go_simp <;> rfl) (by go_simp <;> rfl) (by go_simp <;> rfl) (by go_simp <;> rfl) (by go_simp <;> rfl) (by go_simp <;> rfl) (by go_simp <;> rfl)
  clear r3a r3b r3c r3g r3i r3d r3e r3f r3h r3j r3z p3a p3b p3c p3g p3d p3e p3f p3h p3z hw4 hw3b
  go_wp2_with fail
  refine (rgetRoute_any A c l _ (HR.out.keep (by go_grown)) (by omega)).mono ?_
  rintro e w5 ⟨rfl, hw5⟩
  have zw5 := hw5.size
  have bw5 := below_of (w := w) (by go_grown) hw5
  try simp at zw5
  have hw4b := below_of (w := w4) (by go_grown) hw5
  obtain ⟨r5a, r5b, r5c, r5g, r5i, r5d, r5e, r5f, r5h, r5j, r5z⟩ := cells5 hw4b r4z r4a r4b r4c r4g r4i r4d r4e r4f r4h r4j
  obtain ⟨p5a, p5b, p5c, p5g, p5d, p5e, p5f, p5h, p5z⟩ := cells4 hw4b p4z p4a p4b p4c p4g p4d p4e p4f p4h
  obtain ⟨q5a, q5b, q5c, q5g, q5d, q5e, q5f, q5h, q5z⟩ := cells4 hw4b q4z q4a q4b q4c q4g q4d q4e q4f q4h
  obtain ⟨x5a, x5b, x5c, x5g, x5i, x5d, x5e, x5f, x5h, x5j, x5z⟩ := cells5 (b := w4.heap.size) hw5 (by go_size) (by go_simp <;> rfl) (by go_simp <;> rfl) (by go_simp <;> rfl) (by go_simp <;> rfl) (by go_simp <;> rfl) (by go_simp <;> rfl) (by go_simp <;> rfl) (by go_simp <;> rfl) (by go_simp <;> rfl) (by go_simp <;> rfl)
  clear r4a r4b r4c r4g r4i r4d r4e r4f r4h r4j r4z p4a p4b p4c p4g p4d p4e p4f p4h p4z q4a q4b q4c q4g q4d q4e q4f q4h q4z hw5 hw4b
  go_wp2_with fail
  refine (getAll_any A c l _ (HR.out.keep (by go_grown)) (by omega)).mono ?_
  rintro e w6 ⟨v6, rfl, ho6, hw6⟩
  obtain ⟨_, X, cx, rfl, hcx, hr6⟩ := own_rdr ho6
  have bw6 := below_of (w := w) (by go_grown) hw6
  have zw6 := hw6.size
  have X6 := Lib.hid hr6
  have hw5b := below_of (w := w5) (by go_grown) hw6
  obtain ⟨r6a, r6b, r6c, r6g, r6i, r6d, r6e, r6f, r6h, r6j, r6z⟩ := cells5 hw5b r5z r5a r5b r5c r5g r5i r5d r5e r5f r5h r5j
  obtain ⟨p6a, p6b, p6c, p6g, p6d, p6e, p6f, p6h, p6z⟩ := cells4 hw5b p5z p5a p5b p5c p5g p5d p5e p5f p5h
  obtain ⟨q6a, q6b, q6c, q6g, q6d, q6e, q6f, q6h, q6z⟩ := cells4 hw5b q5z q5a q5b q5c q5g q5d q5e q5f q5h
  obtain ⟨x6a, x6b, x6c, x6g, x6i, x6d, x6e, x6f, x6h, x6j, x6z⟩ := cells5 hw5b x5z x5a x5b x5c x5g x5i x5d x5e x5f x5h x5j
  obtain ⟨y6a, y6b, y6c, y6g, y6i, y6d, y6e, y6f, y6h, y6j, y6z⟩ := cells5 (b := w5.heap.size) hw6 (by go_size) (by go_simp <;> rfl) (by go_simp <;> rfl) (by go_simp <;> rfl) (by go_simp <;> rfl) (by go_simp <;> rfl) (by go_simp <;> rfl) (by go_simp <;> rfl) (by go_simp <;> rfl) (by go_simp <;> rfl) (by go_simp <;> rfl)
  clear r5a r5b r5c r5g r5i r5d r5e r5f r5h r5j r5z p5a p5b p5c p5g p5d p5e p5f p5h p5z q5a q5b q5c q5g q5d q5e q5f q5h q5z x5a x5b x5c x5g x5i x5d x5e x5f x5h x5j x5z hw6 hw5b
  clear ho6 hr6
  go_wp2_with fail
  refine (rgetAll_any A c l _ (HR.out.keep (by go_grown)) (by omega)).mono ?_
  rintro e w7 ⟨v7, rfl, ho7, hw7⟩
  obtain ⟨_, Y, cy, rfl, hcy, hr7⟩ := own_rdr ho7
  have bw7 := below_of (w := w) (by go_grown) hw7
  have zw7 := hw7.size
  have X7 := Lib.hid (X6.out.keep hw7)
  have Y7 := Lib.hid hr7
  have hw6b := below_of (w := w6) (by go_grown) hw7
  obtain ⟨r7a, r7b, r7c, r7g, r7i, r7d, r7e, r7f, r7h, r7j, r7z⟩ := cells5 hw6b r6z r6a r6b r6c r6g r6i r6d r6e r6f r6h r6j
  obtain ⟨p7a, p7b, p7c, p7g, p7d, p7e, p7f, p7h, p7z⟩ := cells4 hw6b p6z p6a p6b p6c p6g p6d p6e p6f p6h
  obtain ⟨q7a, q7b, q7c, q7g, q7d, q7e, q7f, q7h, q7z⟩ := cells4 hw6b q6z q6a q6b q6c q6g q6d q6e q6f q6h
  obtain ⟨x7a, x7b, x7c, x7g, x7i, x7d, x7e, x7f, x7h, x7j, x7z⟩ := cells5 hw6b x6z x6a x6b x6c x6g x6i x6d x6e x6f x6h x6j
  obtain ⟨y7a, y7b, y7c, y7g, y7i, y7d, y7e, y7f, y7h, y7j, y7z⟩ := cells5 hw6b y6z y6a y6b y6c y6g y6i y6d y6e y6f y6h y6j
  clear r6a r6b r6c r6g r6i r6d r6e r6f r6h r6j r6z p6a p6b p6c p6g p6d p6e p6f p6h p6z q6a q6b q6c q6g q6d q6e q6f q6h q6z x6a x6b x6c x6g x6i x6d x6e x6f x6h x6j x6z y6a y6b y6c y6g y6i y6d y6e y6f y6h y6j y6z hw7 hw6b
  clear ho7 hr7 X6
  go_wp2_with fail
  refine (same_yes X Y cx cy (galR l) _ (by omega) X7.out Y7.out).mono ?_
  rintro e w8 ⟨rfl, hw8⟩
  have zw8 := hw8.size
  have bw8 := below_of (w := w) (by go_grown) hw8
  try simp at zw8
  have hw7b := below_of (w := w7) (by go_grown) hw8
  obtain ⟨r8a, r8b, r8c, r8g, r8i, r8d, r8e, r8f, r8h, r8j, r8z⟩ := cells5 hw7b r7z r7a r7b r7c r7g r7i r7d r7e r7f r7h r7j
  obtain ⟨p8a, p8b, p8c, p8g, p8d, p8e, p8f, p8h, p8z⟩ := cells4 hw7b p7z p7a p7b p7c p7g p7d p7e p7f p7h
  obtain ⟨q8a, q8b, q8c, q8g, q8d, q8e, q8f, q8h, q8z⟩ := cells4 hw7b q7z q7a q7b q7c q7g q7d q7e q7f q7h
  obtain ⟨x8a, x8b, x8c, x8g, x8i, x8d, x8e, x8f, x8h, x8j, x8z⟩ := cells5 hw7b x7z x7a x7b x7c x7g x7i x7d x7e x7f x7h x7j
  obtain ⟨y8a, y8b, y8c, y8g, y8i, y8d, y8e, y8f, y8h, y8j, y8z⟩ := cells5 hw7b y7z y7a y7b y7c y7g y7i y7d y7e y7f y7h y7j
  clear r7a r7b r7c r7g r7i r7d r7e r7f r7h r7j r7z p7a p7b p7c p7g p7d p7e p7f p7h p7z q7a q7b q7c q7g q7d q7e q7f q7h q7z x7a x7b x7c x7g x7i x7d x7e x7f x7h x7j x7z y7a y7b y7c y7g y7i y7d y7e y7f y7h y7j y7z hw8 hw7b
  have hrb : RBox w8 w.heap.size r := ⟨r8a, r8b, r8c, r8g, r8i, r8d, r8e, r8f, r8h, r8j, r8z⟩
  clear r8a r8b r8c r8g r8i r8d r8e r8f r8h r8j r8z p8a p8b p8c p8g p8d p8e p8f p8h p8z q8a q8b q8c q8g q8d q8e q8f q8h q8z x8a x8b x8c x8g x8i x8d x8e x8f x8h x8j x8z y8a y8b y8c y8g y8i y8d y8e y8f y8h y8j y8z
  obtain ⟨ra, rb, rc, rg, ri, -, -, -, -, -, rz⟩ := hrb
  go_wp2_with fail
  obtain ⟨W, rfl⟩ : ∃ W, W = w8 := ⟨_, rfl⟩
  refine MixN.region_mix [p1 (.slice A l.length c) r.p (l ++ putP r.p), p2 (.slice A l.length c) r.p (l ++ putP r.p), p3 (.slice A l.length c) r (l ++ putR r), p4 (.slice A l.length c) r (l ++ putR r)] W.heap.size (by kernel_rfl) (by kernel_rfl) (by kernel_rfl) (by kernel_rfl) (Nat.le_refl _) ⟨?_, ?_, ?_, ?_, ?_, ?_, ?_, ?_, ?_, ?_⟩ ?_
  · refine mem4 ?_ ?_ ?_ ?_ <;> (intro o ho; simp only [p1, p2, p3, p4] at ho ⊢; simp [MixN.virt, ho])
  · refine mem4 ?_ ?_ ?_ ?_ <;> (intro o ho; simp only [p1, p2, p3, p4] at ho ⊢; simp [MixN.virt, ho])
  · refine mem4 ?_ ?_ ?_ ?_ <;> refine mem4 ?_ ?_ ?_ ?_ <;> (intro h; first | rfl | (simp [p1, p2, p3, p4] at h))
  · refine mem4 ?_ ?_ ?_ ?_ <;> refine mem4 ?_ ?_ ?_ ?_ <;> (intro x hx; simp [p1, p2, p3, p4] at hx ⊢; rcases hx with rfl | rfl <;> simp)
  · refine mem4 ?_ ?_ ?_ ?_ <;> refine mem4 ?_ ?_ ?_ ?_ <;> simp [p1, p2, p3, p4]
  · refine mem4 ?_ ?_ ?_ ?_ <;> simp [p1, p2, p3, p4, undef]
  · refine mem4 ?_ ?_ ?_ ?_ <;> (intro o ho a w; simp [p1, p2, p3, p4] at ho; subst ho; simp [p1, p2, p3, p4, go_sem])
  · refine mem4 ?_ ?_ ?_ ?_
    · exact fun x => row_held B1.out (put_any A c l r.p x.at (HR.out.keep (bw8.trans (x.below.mono bw8.size))) (by omega))
    · exact fun x => row_held B1.out (rput_any A c l r.p x.at (HR.out.keep (bw8.trans (x.below.mono bw8.size))) (by omega))
    · exact fun x => row_held B2.out (putRoute_any A c l r x.at (HR.out.keep (bw8.trans (x.below.mono bw8.size))) (by omega))
    · exact fun x => row_held B2.out (rputRoute_any A c l r x.at (HR.out.keep (bw8.trans (x.below.mono bw8.size))) (by omega))
  · refine mem4 ?_ ?_ ?_ ?_
    · intro o ho a w hΦ
      simp [p1] at ho
      subst ho
      have hcv := HeldI.conv hΦ
      generalize hval : a.eval (.tmp (p1 (.slice A l.length c) r.p (l ++ putP r.p)).d) = val at hcv
      have hval' : a.eval (.tmp 105) = val := hval
      clear hval hΦ
      unfold execOp
      simp only [hval']
      simp [go_sem, hcv, p1]
    · intro o ho a w hΦ
      simp [p2] at ho
      subst ho
      have hcv := HeldI.conv hΦ
      generalize hval : a.eval (.tmp (p2 (.slice A l.length c) r.p (l ++ putP r.p)).d) = val at hcv
      have hval' : a.eval (.tmp 110) = val := hval
      clear hval hΦ
      unfold execOp
      simp only [hval']
      simp [go_sem, hcv, p2]
    · intro o ho a w hΦ
      simp [p3] at ho
      subst ho
      have hcv := HeldI.conv hΦ
      generalize hval : a.eval (.tmp (p3 (.slice A l.length c) r (l ++ putR r)).d) = val at hcv
      have hval' : a.eval (.tmp 117) = val := hval
      clear hval hΦ
      unfold execOp
      simp only [hval']
      simp [go_sem, hcv, p3]
    · intro o ho a w hΦ
      simp [p4] at ho
      subst ho
      have hcv := HeldI.conv hΦ
      generalize hval : a.eval (.tmp (p4 (.slice A l.length c) r (l ++ putR r)).d) = val at hcv
      have hval' : a.eval (.tmp 121) = val := hval
      clear hval hΦ
      unfold execOp
      simp only [hval']
      simp [go_sem, hcv, p4]
  · refine mem4 ?_ ?_ ?_ ?_ <;> exact fun v w w' h1 h2 => HeldI.keep h1 h2
  apply Exists.intro
  refine ⟨fun W' hW' => ?_, ?_, ?_⟩
  · have T := Lib.hid (fun x : Later W'.heap.size W' => hW'.trans (x.below.mono hW'.size))
    have La := fun x : Later W'.heap.size W' => ((T.out x).cell (p := ⟨w.heap.size, 0, none⟩) rz).trans ra
    have Lb := fun x : Later W'.heap.size W' => ((T.out x).cell (p := ⟨w.heap.size, 1, none⟩) rz).trans rb
    have Lc := fun x : Later W'.heap.size W' => ((T.out x).cell (p := ⟨w.heap.size, 2, none⟩) rz).trans rc
    have Lg := fun x : Later W'.heap.size W' => ((T.out x).cell (p := ⟨w.heap.size, 3, none⟩) rz).trans rg
    have Li := fun x : Later W'.heap.size W' => ((T.out x).cell (p := ⟨w.heap.size, 4, none⟩) rz).trans ri
    simp only [List.map_cons, List.map_nil, MixN.virt, p1, p2, p3, p4, Option.some.injEq, Nat.reduceEqDiff, reduceIte]
    repeat (go_big_quiet_step (first | (go_at_call 21; exact later_of (Nat.le_refl _) (good_any r _)) | (go_at_call 22; exact later_of (Nat.le_refl _) (rgood_any r _))))
    refine wpQuiet_nil ?_
    exact rfl
  · refine mem4 ?_ ?_ ?_ ?_ <;> exact ⟨rfl, rfl⟩
  · intro listed r' w' R
    obtain ⟨v1, v2, v3, v4, rfl⟩ := R.four
    have hbW := R.below
    clear R
    have bwx := bw8.trans (hbW.mono bw8.size)
    simp only [p1, p2, p3, p4, Act.put, List.setIfInBounds_toArray, List.set_cons_succ, List.set_cons_zero]
    go_wp2
    go_ret
    exact ⟨rfl, bwx⟩
theorem wis_law (A : Option Addr) (c : Nat) (l : List Int) (r : Rt) (w : World) (h : Rd w A c l) : Calls Try.prog 3 #[.slice A l.length c, .agg #[.int .u64 (u r.p.a.hi), .int .u64 (u r.p.a.lo), .bool r.p.a.v6, .int .i64 r.p.n, .int .i64 r.hop]] w fun e w' => e = .returned (.bool true) ∧ Below w.heap.size w w' := by
  rcases Nat.lt_or_ge 1000 l.length with hl | hl
  · exact wis_long A c _ r w hl
  · exact wis_short A c l r w h hl

end Go.Proofs.Ytibhabglmkgaaaa

namespace Go.Proofs.Ytibhabglmkgaaaa
set_option maxRecDepth 100000
open Go.ChangeShapes Go.WideShapes Go.ChangeAt Go.RowKit Go.Joins Go.Deep

theorem open_rt {H : Type} {enc : TypeId × Value → H} {W : World} {base b0 : Nat} {spare : Nat → Bool} {held : Bool} {r : Reach} {v : Value} {d : DataW H} {p : List MemPlace}
    (hv : Value.okWide Try.prog W r b0 29 v) (h : DataW.Trod enc Try.prog W base spare held 29 v d p) :
    ∃ a : Rt, v = .agg #[.int .u64 (u a.p.a.hi), .int .u64 (u a.p.a.lo), .bool a.p.a.v6, .int .i64 a.p.n, .int .i64 a.hop] := by
  obtain ⟨cs, rfl, hsz⟩ := okWide_struct Try.underlying29 hv
  obtain ⟨cs⟩ := cs
  match cs, hsz.trans (show Try.prog.cellsOf 29 = 5 by kernel_rfl) with
  | [c0, c1, c2, c3, c4], _ =>
  obtain ⟨fuel, hf⟩ := h
  obtain ⟨y0, y1, n, hx, _, h0, h1⟩ := trod_struct2 Try.underlying29 hf
  have k0 : Try.prog.cellsOf 27 = 4 := by kernel_rfl
  have k1 : Try.prog.cellsOf 3 = 1 := by kernel_rfl
  have g0 : DataW.trod enc Try.prog W base spare held n 27 [c0, c1, c2, c3] = some y0 := by simpa [Value.cells, k0] using h0
  have g1 : DataW.trod enc Try.prog W base spare held n 3 [c4] = some y1 := by simpa [Value.cells, k1] using h1
  obtain ⟨y2, y3, n2, _, _, h2, h3⟩ := trod_struct2 Try.underlying27 g0
  have k4 : Try.prog.cellsOf 25 = 3 := by kernel_rfl
  have g2 : DataW.trod enc Try.prog W base spare held n2 25 [c0, c1, c2] = some y2 := by simpa [k4] using h2
  have g3 : DataW.trod enc Try.prog W base spare held n2 3 [c3] = some y3 := by simpa [k1] using h3
  obtain ⟨z0, z1, z2, m, hz, _, i0, i1, i2⟩ := trod_struct3 Try.underlying25 g2
  have k2 : Try.prog.cellsOf 23 = 1 := by kernel_rfl
  have k3 : Try.prog.cellsOf 4 = 1 := by kernel_rfl
  have j0 : DataW.trod enc Try.prog W base spare held m 23 [c0] = some z0 := by simpa [k2] using i0
  have j1 : DataW.trod enc Try.prog W base spare held m 23 [c1] = some z1 := by simpa [k2] using i1
  have j2 : DataW.trod enc Try.prog W base spare held m 4 [c2] = some z2 := by simpa [k3] using i2
  obtain ⟨x0, e0, _, w0⟩ := DataW.trod_int Try.underlying23 j0
  obtain ⟨x1, e1, _, w1⟩ := DataW.trod_int Try.underlying23 j1
  obtain ⟨x2, e2, _⟩ := DataW.trod_bool Try.underlying4 j2
  obtain ⟨x3, e3, _, w3⟩ := DataW.trod_int Try.underlying3 g3
  obtain ⟨x4, e4, _, w4⟩ := DataW.trod_int Try.underlying3 g1
  obtain ⟨lo0, hi0⟩ := bounds_u64 w0
  obtain ⟨lo1, hi1⟩ := bounds_u64 w1
  obtain ⟨a0, rfl⟩ := u_of x0 lo0 (by omega)
  obtain ⟨a1, rfl⟩ := u_of x1 lo1 (by omega)
  simp at e0 e1 e2 e3 e4
  subst e0 e1 e2 e3 e4
  exact ⟨⟨⟨⟨a0, a1, x2⟩, x3⟩, x4⟩, rfl⟩

end Go.Proofs.Ytibhabglmkgaaaa

namespace Go.Proofs.Ytibhabglmkgaaaa
open Go.ChangeShapes Go.WideShapes Go.ChangeAt Go.RowKit

set_option maxRecDepth 100000 in
theorem wireIs_lifted (os : Os) (started : os.Started) (H : Type) (enc : TypeId × Value → H) :
    ReturnsInHanded {} Try.checked os 3 .any (Rows.wireIsSpec.pre6 enc Try.prog Try.f3 Rows.wireIsRow.domain false) (Rows.wireIsSpec.post enc Try.prog Try.f3 false true false false) := by
  refine returnsInHanded_of_change (C := Try.checked) own started (by kernel_rfl) Try.func3
    (ChangeSpec.witness6 (enc := enc) (C := Try.checked) false ⟨#[], #[.slice none 0 0, .agg #[.int .u64 0, .int .u64 0, .bool false, .int .i64 0, .int .i64 0]], []⟩ 8 (by kernel_rfl) (by kernel_rfl) (by kernel_rfl) (by kernel_rfl)) ?_
  intro W base args ds gs before hval0 hW hcnd _
  have hval : ∀ (j : Nat) t v, Try.f3.params[j]? = some t → args[j]? = some v → Value.okWide Try.prog W .any base t v := hval0
  have hW' := hW
  obtain ⟨p, q, hA0, hV, rfl, hfz, hnd⟩ := hW
  have hA : DataW.TrodAll enc Try.prog W 0 (fun _ => true) true Try.f3.params.toList args.toList ds p := hA0
  rw [Try.params3] at hA hval
  obtain ⟨v0, vs0, d0, ds0, p0, q0, hargs, rfl, rfl, h0, r0⟩ := trodAll_cons hA
  obtain ⟨v1, vs1, d1, ds1, p1, q1, rfl, rfl, rfl, h1, r1⟩ := trodAll_cons r0
  obtain ⟨rfl, rfl, rfl⟩ := trodAll_nil r1
  obtain rfl : args = #[v0, v1] := by cases args; simp_all
  obtain ⟨rfl, rfl⟩ := trodVars_none hV
  have lt0 : ∀ x ∈ p0, x.block < W.heap.size := by obtain ⟨m, hm⟩ := h0; exact DataW.trod_lt m _ _ _ hm
  obtain ⟨A0, len0, cap0, z0, rfl, w0⟩ := open_bytes (hval 0 22 v0 rfl rfl) h0 (fun _ => rfl)
  obtain ⟨l0, rfl, y0⟩ := bytes_rd w0
  have lt1 : ∀ x ∈ p1, x.block < W.heap.size := by obtain ⟨m, hm⟩ := h1; exact DataW.trod_lt m _ _ _ hm
  obtain ⟨a1, rfl⟩ := open_rt (hval 1 29 v1 rfl rfl) h1
  clear hA0 hval0
  refine (wis_law A0 cap0 l0 a1 W y0).mono fun e W' ⟨he, bel⟩ => ?_
  subst he
  exact ⟨_, rfl, _, _, _, [], _, [], hW', trodAll_mk1 (shut_bool Try.underlying4 _), (trodAll_cons_mk (Below.trod laidOut (by kernel_rfl) (of_decide_eq_true (by kernel_rfl)) h0 bel lt0) (trodAll_cons_mk (Below.trod laidOut (by kernel_rfl) (of_decide_eq_true (by kernel_rfl)) h1 bel lt1) trodAll_mk0)), rfl, bel.frame _, fun h => by cases h⟩

theorem wireIs_holds : Rows.WireIsSaid :=
  OpenClaim.holds_of_wide 3 Try.f3 rfl rfl rfl rfl rfl rfl rfl ⟨rfl, rfl, rfl, rfl, rfl⟩ rfl rfl rfl rfl rfl (by kernel_rfl) Try.func3 (by kernel_rfl)
    (of_decide_eq_true (by kernel_rfl)) (by unfold Func.isWrapper; first | (rw [if_pos (by decide +kernel)]; kernel_rfl) | (rw [if_neg (by decide +kernel)]; exact ⟨rfl, rfl⟩))
    (fun os started H enc _ => wireIs_lifted os started H enc)

end Go.Proofs.Ytibhabglmkgaaaa
