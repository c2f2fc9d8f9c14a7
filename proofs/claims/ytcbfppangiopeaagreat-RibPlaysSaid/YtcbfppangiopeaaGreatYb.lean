/-
  Plain facts: a node more, a node less. No condition.
-/
import Derived.Test.YtcbfppangiopeaaGreatYa
namespace Go.Proofs.YtcbfppangiopeaaGreat
open Go.RowKit

theorem kid_setKid (x : Nd) (a b : Ad) (k m : Int) (i : Nat) : kid (setKid x (bitv a k) i) (bitv b m) = if bitv b m = bitv a k then i else kid x (bitv b m) := by
  rcases bitv_01 a k with e | e <;> rcases bitv_01 b m with e' | e' <;> rw [e, e'] <;> simp [kid, setKid]
theorem setKid_tv (x : Nd) (d : Int) (i : Nat) : (setKid x d i).th = x.th ∧ (setKid x d i).v = x.v := by
  unfold setKid
  split <;> exact ⟨rfl, rfl⟩

section
variable {T : Tr} {ns : List Pf}
theorem step_getD (h : Base T ns) {a : Ad} {k i : Nat} (hk : k ≤ wd a.v6) (hi : nodeAt T.ar a k = some i) (d : Int) (j : Nat) : (stepT T i d).ar.getD j nd0 = if i = j then setKid (T.ar.getD i nd0) d (takeI T) else T.ar.getD j nd0 := by
  have hl := h.lt hk hi
  have hl2 := take_len T
  show ((takeT T).ar.set i (setKid ((takeT T).ar.getD i nd0) d (takeI T))).getD j nd0 = _
  rw [getD_set, take_getD, take_getD]
  by_cases hij : i = j
  · subst hij
    rw [if_pos ⟨rfl, by omega⟩, if_pos rfl]
  · rw [if_neg (fun e => hij e.1), if_neg hij]
theorem takeI_ne0 (h : Base T ns) : takeI T ≠ 0 := (h.fresh (a := ⟨0#64, 0#64, false⟩) (k := 0) (i := 0) (Nat.zero_le _) rfl).symm
/-- Which nodes there are behind one more. -/
theorem step_node (h : Base T ns) {a : Ad} {k i : Nat} (hk : k + 1 ≤ wd a.v6) (hi : nodeAt T.ar a k = some i) (hn : nodeAt T.ar a (k + 1) = none) (b : Ad) : ∀ m, m ≤ wd b.v6 → nodeAt (stepT T i (bitv a k)).ar b m = if pof b m = pof a ((k + 1 : Nat) : Int) then some (takeI T) else nodeAt T.ar b m := by
  intro m
  induction m with
  | zero =>
    intro hm
    rw [if_neg (fun e => by have := (pof_inj (a := b) (k := 0) (Nat.zero_le _) hk e).1; omega)]
    rfl
  | succ m ih =>
    intro hm
    have ih := ih (by omega)
    show (nodeAt (stepT T i (bitv a k)).ar b m).bind _ = _
    rw [ih]
    by_cases e1 : pof b m = pof a ((k + 1 : Nat) : Int)
    · rw [if_pos e1, if_neg (fun e => by have := (pof_inj hm hk e).1; have := (pof_inj (a := b) (k := m) (by omega) hk e1).1; omega)]
      have hf : nodeAt T.ar b m = none := by
        obtain ⟨h1, h2⟩ := pof_inj (a := b) (k := m) (by omega) hk e1
        subst h1
        rw [nodeAt_pof T.ar (a := b) (b := a) (by omega) hk e1]
        exact hn
      simp only [Option.bind_some]
      rw [step_getD h (by omega) hi, if_neg (fun e => h.fresh (by omega) hi e), h.take0]
      simp only [kid_nd0, if_true]
      exact (nodeAt_none hf 1).symm
    · rw [if_neg e1]
      show _ = if _ then _ else (nodeAt T.ar b m).bind _
      cases hb : nodeAt T.ar b m with
      | none =>
        rw [if_neg]
        · rfl
        · intro e
          obtain ⟨h1, h2⟩ := pof_inj hm hk e
          obtain rfl : m = k := by omega
          have := (pof_succ (a := b) (b := a) hm h2).1 e
          rw [nodeAt_pof T.ar (a := b) (b := a) (by omega) (by omega) this.1, hi] at hb
          cases hb
      | some j =>
        simp only [Option.bind_some]
        rw [step_getD h (by omega) hi]
        by_cases hij : i = j
        · subst hij
          have hp := h.inj (a := b) (b := a) (k := m) (m := k) (by omega) (by omega) hb hi
          obtain ⟨h1, h2⟩ := pof_inj (a := b) (b := a) (k := m) (m := k) (by omega) (by omega) hp
          subst h1
          rw [if_pos rfl, kid_setKid]
          by_cases hd : bitv b m = bitv a m
          · rw [if_pos hd, if_pos ((pof_succ (a := b) (b := a) hm h2).2 ⟨hp, hd⟩), if_neg (takeI_ne0 h)]
          · rw [if_neg hd, if_neg (fun e => hd ((pof_succ (a := b) (b := a) hm h2).1 e).2)]
        · have hne : ¬ pof b ((m + 1 : Nat) : Int) = pof a ((k + 1 : Nat) : Int) := by
            intro e
            obtain ⟨h1, h2⟩ := pof_inj hm hk e
            obtain rfl : m = k := by omega
            have := (pof_succ (a := b) (b := a) hm h2).1 e
            rw [nodeAt_pof T.ar (a := b) (b := a) (by omega) (by omega) this.1, hi] at hb
            exact hij (Option.some.inj hb)
          rw [if_neg hij, if_neg hne]
theorem nodeT_eq {q : Pf} (hq : psane q = true) : ∃ k : Nat, k ≤ wd q.a.v6 ∧ q = pof q.a k ∧ q.n = k := by
  obtain ⟨h0, h1⟩ := psane_bd hq
  rw [wid_wd] at h1
  refine ⟨q.n.toNat, by omega, ?_, by omega⟩
  rw [show ((q.n.toNat : Nat) : Int) = q.n from by omega]
  exact (pof_self hq).symm
/-- The number at a prefix. -/
def vf (T : Tr) (q : Pf) : Option Int := (nodeT T q).bind fun i => if (T.ar.getD i nd0).th = true then some (T.ar.getD i nd0).v else none
theorem step_nodeT (h : Base T ns) {a : Ad} {k i : Nat} (hk : k + 1 ≤ wd a.v6) (hi : nodeAt T.ar a k = some i) (hn : nodeAt T.ar a (k + 1) = none) {q : Pf} (hq : psane q = true) :
    nodeT (stepT T i (bitv a k)) q = if q = pof a ((k + 1 : Nat) : Int) then some (takeI T) else nodeT T q := by
  obtain ⟨m, hm, e1, e2⟩ := nodeT_eq hq
  rw [e1, nodeT_pof _ q.a m hm, nodeT_pof _ q.a m hm, step_node h hk hi hn q.a m hm]
theorem step_base (h : Base T ns) {a : Ad} {k i : Nat} (hk : k + 1 ≤ wd a.v6) (hi : nodeAt T.ar a k = some i) (hn : nodeAt T.ar a (k + 1) = none) :
    Base (stepT T i (bitv a k)) (pof a ((k + 1 : Nat) : Int) :: ns) ∧ (∀ q, psane q = true → vf (stepT T i (bitv a k)) q = vf T q) ∧ nodeAt (stepT T i (bitv a k)).ar a (k + 1) = some (takeI T) ∧
      (stepT T i (bitv a k)).ar.length = max T.ar.length (ns.length + 1) := by
  have hnew : pof a ((k + 1 : Nat) : Int) ∉ ns := fun e => by
    have := ((h.key _).1 e).2
    rw [nodeT_pof T a (k + 1) hk, hn] at this
    cases this
  have hgd := fun j => step_getD h (show k ≤ wd a.v6 by omega) hi (bitv a k) j
  have hlen := h.len
  have hpm : ((pof a ((k + 1 : Nat) : Int) :: ns).map (fun q => (nodeT (stepT T i (bitv a k)) q).getD 0)) = takeI T :: ns.map (fun q => (nodeT T q).getD 0) := by
    rw [List.map_cons, step_nodeT h hk hi hn (psane_pof _ _), if_pos rfl]
    congr 1
    apply List.map_congr_left
    intro q hq
    rw [step_nodeT h hk hi hn ((h.key q).1 hq).1, if_neg (show ¬ q = pof a ((k + 1 : Nat) : Int) from fun e => hnew (e ▸ hq))]
  refine ⟨⟨?_, List.nodup_cons.2 ⟨hnew, h.nd⟩, ?_, ?_, ?_, ?_, ?_⟩, ?_, ?_, ?_⟩
  · rw [step_len]
    have := h.len2
    have := take_len T
    omega
  · intro q
    rw [List.mem_cons, h.key]
    constructor
    · rintro (rfl | ⟨h1, h2⟩)
      · exact ⟨psane_pof _ _, by rw [step_nodeT h hk hi hn (psane_pof _ _), if_pos rfl]; rfl⟩
      · refine ⟨h1, ?_⟩
        rw [step_nodeT h hk hi hn h1]
        split
        · rfl
        · exact h2
    · rintro ⟨h1, h2⟩
      rw [step_nodeT h hk hi hn h1] at h2
      by_cases e : q = pof a ((k + 1 : Nat) : Int)
      · exact .inl e
      · rw [if_neg e] at h2
        exact .inr ⟨h1, h2⟩
  · rw [hpm, step_len]
    show (takeI T :: ns.map (fun q => (nodeT T q).getD 0) ++ (takeT T).fr).Perm (List.range (takeT T).ar.length)
    unfold takeI takeT
    by_cases hf : T.fr = []
    · rw [if_pos hf, if_pos hf]
      have hp := h.perm
      rw [hf, List.append_nil] at hp
      simp only [hf, List.append_nil, List.length_append, List.length_singleton, List.range_succ]
      exact (List.Perm.cons _ hp).trans (List.perm_append_comm (l₁ := [T.ar.length]))
    · rw [if_neg hf, if_neg hf]
      have e1 : T.fr.getLastD 0 = T.fr.getLast hf := by
        rw [List.getLastD_eq_getLast?, List.getLast?_eq_some_getLast hf]
        rfl
      have hp := h.perm
      rw [← List.dropLast_concat_getLast hf] at hp
      rw [e1]
      refine List.Perm.trans ?_ hp
      rw [List.cons_append, ← List.append_assoc]
      exact (List.perm_append_comm (l₁ := [T.fr.getLast hf]))
  · intro j hj
    have hj' : j ∈ T.fr := by
      change j ∈ (takeT T).fr at hj
      unfold takeT at hj
      split at hj
      · exact hj
      · exact List.dropLast_subset _ hj
    rw [hgd, if_neg (show ¬ i = j from fun e => h.notfree (show k ≤ wd a.v6 by omega) hi (e ▸ hj')), h.zero j hj']
  · intro j hj
    rw [hgd] at hj ⊢
    split at hj
    · rename_i e
      rw [if_pos e]
      rw [(setKid_tv _ _ _).1] at hj
      rw [(setKid_tv _ _ _).2]
      exact h.zv _ hj
    · rename_i e
      rw [if_neg e]
      exact h.zv _ hj
  · intro b j hj
    rw [step_node h hk hi hn b _ (Nat.le_refl _)] at hj
    rw [hgd]
    by_cases e : pof b (wd b.v6) = pof a ((k + 1 : Nat) : Int)
    · rw [if_pos e] at hj
      obtain rfl := Option.some.inj hj
      rw [if_neg (fun e => h.fresh (show k ≤ wd a.v6 by omega) hi e), h.take0]
      exact ⟨rfl, rfl⟩
    · rw [if_neg e] at hj
      have hij : i ≠ j := by
        rintro rfl
        have hp := h.inj (a := b) (b := a) (k := wd b.v6) (m := k) (Nat.le_refl _) (by omega) hj hi
        obtain ⟨h1, h2⟩ := pof_inj (a := b) (b := a) (k := wd b.v6) (m := k) (Nat.le_refl _) (by omega) hp
        rw [h2] at h1
        omega
      rw [if_neg hij]
      exact h.deep b j hj
  · intro q hq
    unfold vf
    rw [step_nodeT h hk hi hn hq]
    by_cases e : q = pof a ((k + 1 : Nat) : Int)
    · subst e
      rw [if_pos rfl, nodeT_pof T a (k + 1) hk, hn]
      simp only [Option.bind_some, Option.bind_none]
      rw [hgd, if_neg (fun e => h.fresh (show k ≤ wd a.v6 by omega) hi e), h.take0]
      rfl
    · rw [if_neg e]
      congr 1
      funext j
      rw [hgd]
      by_cases e : i = j
      · subst e
        rw [if_pos rfl, (setKid_tv _ _ _).1, (setKid_tv _ _ _).2]
      · rw [if_neg e]
  · rw [step_node h hk hi hn a _ hk, if_pos rfl]
  · rw [step_len]
    unfold takeT
    by_cases hf : T.fr = []
    · rw [if_pos hf]
      have : T.fr.length = 0 := by rw [hf]; rfl
      simp only [List.length_append, List.length_singleton]
      omega
    · rw [if_neg hf]
      have : 0 < T.fr.length := List.length_pos_iff.2 hf
      simp only
      omega
end

/-- No node has more digits than its kind. -/
def Deep (T : Tr) : Prop := ∀ a i, nodeAt T.ar a (wd a.v6) = some i → (T.ar.getD i nd0).k0 = 0 ∧ (T.ar.getD i nd0).k1 = 0
/-- A kid is the child's node. -/
theorem kid_child {T : Tr} {p : Pf} (hp : psane p = true) {i : Nat} (hi : nodeAt T.ar p.a p.n.toNat = some i) (hD : Deep T) (d : Int) (hd : d = 0 ∨ d = 1) (hk : kid (T.ar.getD i nd0) d ≠ 0) :
    p.n < wid p.a.v6 ∧ pchild p d = (⟨setv p.a p.n d, p.n + 1⟩, true) ∧ psane (pchild p d).1 = true ∧ nodeAt T.ar (pchild p d).1.a (pchild p d).1.n.toNat = some (kid (T.ar.getD i nd0) d) ∧ (pchild p d).1.a.v6 = p.a.v6 ∧ (pchild p d).1.n = p.n + 1 := by
  obtain ⟨n0, n1⟩ := psane_bd hp
  have hlt : p.n < wid p.a.v6 := by
    rcases Int.lt_or_le p.n (wid p.a.v6) with h | h
    · exact h
    · exfalso
      have e : p.n.toNat = wd p.a.v6 := by rw [wid_wd] at h n1; omega
      rw [e] at hi
      have := hD p.a i hi
      apply hk
      unfold kid
      split
      · exact this.2
      · exact this.1
  have hc := child_eq p d hp hlt
  have hs := child_sane p d hp hlt
  rw [hc]
  refine ⟨hlt, rfl, hs, ?_, set_v6 _ _ _, rfl⟩
  show nodeAt T.ar (setv p.a p.n d) (p.n + 1).toNat = _
  have e1 : (p.n + 1).toNat = p.n.toNat + 1 := by omega
  have e2 : ((p.n.toNat : Nat) : Int) = p.n := by omega
  rw [e1]
  show (nodeAt T.ar (setv p.a p.n d) p.n.toNat).bind _ = _
  have hw := wid_wd p.a.v6
  have hb : bitv (setv p.a p.n d) p.n = d := by
    rw [kin_bit p d hp hlt]
    rcases hd with rfl | rfl <;> rfl
  rw [nodeAt_congr (b := p.a) _ (set_v6 _ _ _) (fun j hj => ?_), hi]
  · simp only [Option.bind_some, e2, hb]
    rw [if_neg hk]
  · have e3 := D_set p.a p.n.toNat d (by omega) (127 - j)
    rw [if_neg (by have := wd_le p.a.v6; omega), e2] at e3
    rw [bitv_D _ _ (by rw [set_v6]; omega), bitv_D _ _ (by omega), e3]

theorem cov_child {p : Pf} (hp : psane p = true) (hlt : p.n < wid p.a.v6) (d : Int) : pcov p (pchild p d).1 = true := by
  rw [child_eq p d hp hlt]
  refine (pcov_iff _ _).2 ⟨hp, child_sane p d hp hlt, by simp only; omega, (set_v6 _ _ _).symm, fun j hj => ?_⟩
  show D (setv p.a p.n d) j = D p.a j
  rw [child_D p d hp hlt, if_neg (by omega)]

end Go.Proofs.YtcbfppangiopeaaGreat
