/-
  Plain facts: which nodes a tree has. No condition.
-/
import Derived.Test.YtcbfppangiopeaaGreatZf
namespace Go.Proofs.YtcbfppangiopeaaGreat
open Go.RowKit

theorem kid_nd0 (d : Int) : kid nd0 d = 0 := by unfold kid nd0; split <;> rfl
theorem wd_le (v : Bool) : wd v ≤ 128 := by cases v <;> decide
theorem pof_nn (a : Ad) (k : Nat) (h : k ≤ wd a.v6) : (pof a k).n = k := pof_n a k (by omega) (by rw [wid_wd]; omega)
theorem pof_v6 (a : Ad) (n : Int) : (pof a n).a.v6 = a.v6 := rfl
theorem pof_self {p : Pf} (h : psane p = true) : pof p.a p.n = p := (pfEq_iff _ _).1 h
theorem pof_bit (a : Ad) (k j : Nat) (h : k ≤ wd a.v6) (hj : j < k) : bitv (pof a k).a j = bitv a j := (pcon_bit _ _ (con_pof a k) j (by rw [pof_nn a k h]; omega)).symm
theorem pof_eq_iff (a b : Ad) (k : Nat) (h : k ≤ wd a.v6) (hv : a.v6 = b.v6) : pof a k = pof b k ↔ ∀ j < k, bitv a j = bitv b j := by
  constructor
  · intro e j hj
    rw [← pof_bit a k j h hj, e, pof_bit b k j (by rw [← hv]; exact h) hj]
  · intro e
    have hc : pcon (pof a k) b = true := pcon_bits _ _ (psane_pof a k) (by rw [pof_v6, hv]) (fun i hi => by
      rw [pof_nn a k h] at hi
      rw [pof_bit a k i h (by omega), e i (by omega)])
    have := (con_iff_pof _ _).1 hc
    rw [pof_nn a k h] at this
    exact this.symm
theorem pof_inj {a b : Ad} {k m : Nat} (hk : k ≤ wd a.v6) (hm : m ≤ wd b.v6) (h : pof a k = pof b m) : k = m ∧ a.v6 = b.v6 := by
  have h1 := pof_nn a k hk
  have h2 := pof_nn b m hm
  rw [h] at h1
  refine ⟨by omega, ?_⟩
  rw [← pof_v6 a k, h, pof_v6]
theorem pof_succ {a b : Ad} {k : Nat} (hk : k + 1 ≤ wd a.v6) (hv : a.v6 = b.v6) : pof a ((k + 1 : Nat) : Int) = pof b ((k + 1 : Nat) : Int) ↔ pof a k = pof b k ∧ bitv a k = bitv b k := by
  rw [pof_eq_iff a b (k + 1) hk hv, pof_eq_iff a b k (by omega) hv]
  constructor
  · intro h
    exact ⟨fun j hj => h j (by omega), h k (by omega)⟩
  · rintro ⟨h1, h2⟩ j hj
    by_cases e : j = k
    · subst e; exact h2
    · exact h1 j (by omega)
/-- The node hangs on the first digits alone. -/
theorem nodeAt_congr (ar : List Nd) {a b : Ad} (hv : a.v6 = b.v6) {k : Nat} (h : ∀ j < k, bitv a j = bitv b j) : nodeAt ar a k = nodeAt ar b k := by
  induction k with
  | zero => simp only [nodeAt, hv]
  | succ k ih => simp only [nodeAt, ih (fun j hj => h j (by omega)), h k (by omega)]
theorem nodeAt_pof (ar : List Nd) {a b : Ad} {k : Nat} (hk : k ≤ wd a.v6) (hm : k ≤ wd b.v6) (h : pof a k = pof b k) : nodeAt ar a k = nodeAt ar b k := by
  have hv := (pof_inj hk hm h).2
  exact nodeAt_congr ar hv ((pof_eq_iff a b k hk hv).1 h)
theorem nodeAt_ar {ar ar' : List Nd} (h : ∀ i, ar'.getD i nd0 = ar.getD i nd0) (a : Ad) (k : Nat) : nodeAt ar' a k = nodeAt ar a k := by
  induction k with
  | zero => rfl
  | succ k ih => simp only [nodeAt, ih, h]
theorem nodeAt_up {ar : List Nd} {a : Ad} {k : Nat} {i : Nat} (h : nodeAt ar a k = some i) : ∀ m ≤ k, ∃ j, nodeAt ar a m = some j := by
  intro m hm
  cases hj : nodeAt ar a m with
  | some j => exact ⟨j, rfl⟩
  | none =>
    have := nodeAt_none hj (k - m)
    rw [show m + (k - m) = k from by omega, h] at this
    cases this
theorem getD_set (l : List Nd) (i j : Nat) (x : Nd) : (l.set i x).getD j nd0 = if i = j ∧ j < l.length then x else l.getD j nd0 := by
  by_cases hj : j < l.length
  · by_cases hij : i = j
    · subst hij
      simp [hj]
    · simp [hij, List.getElem?_set_ne hij]
  · have e1 : (l.set i x)[j]? = none := List.getElem?_eq_none (by simp; omega)
    have e2 : l[j]? = none := List.getElem?_eq_none (by omega)
    rw [List.getD_eq_getElem?_getD, List.getD_eq_getElem?_getD, e1, e2, if_neg (fun h => hj h.2)]

/-- The node of a prefix. -/
def nodeT (T : Tr) (q : Pf) : Option Nat := nodeAt T.ar q.a q.n.toNat
theorem nodeT_pof (T : Tr) (a : Ad) (k : Nat) (h : k ≤ wd a.v6) : nodeT T (pof a k) = nodeAt T.ar a k := by
  unfold nodeT
  rw [pof_nn a k h, Int.toNat_natCast]
  exact nodeAt_congr (a := (pof a k).a) (b := a) _ (pof_v6 a k) (fun j hj => pof_bit a k j h hj)
/-- A tree whose nodes are those of ns. -/
structure Base (T : Tr) (ns : List Pf) : Prop where
  len2 : 2 ≤ T.ar.length
  nd : ns.Nodup
  key : ∀ q, q ∈ ns ↔ psane q = true ∧ (nodeT T q).isSome = true
  perm : (ns.map (fun q => (nodeT T q).getD 0) ++ T.fr).Perm (List.range T.ar.length)
  zero : ∀ i ∈ T.fr, T.ar.getD i nd0 = nd0
  zv : ∀ i, (T.ar.getD i nd0).th = false → (T.ar.getD i nd0).v = 0
  deep : ∀ a i, nodeAt T.ar a (wd a.v6) = some i → (T.ar.getD i nd0).k0 = 0 ∧ (T.ar.getD i nd0).k1 = 0

section
variable {T : Tr} {ns : List Pf}
theorem Base.mem (h : Base T ns) {a : Ad} {k i : Nat} (hk : k ≤ wd a.v6) (hi : nodeAt T.ar a k = some i) : pof a k ∈ ns := (h.key _).2 ⟨psane_pof _ _, by rw [nodeT_pof T a k hk, hi]; rfl⟩
theorem Base.nodup (h : Base T ns) : (ns.map (fun q => (nodeT T q).getD 0) ++ T.fr).Nodup := h.perm.nodup_iff.2 List.nodup_range
/-- Unlike prefixes have unlike nodes. -/
theorem Base.inj (h : Base T ns) {a b : Ad} {k m i : Nat} (hk : k ≤ wd a.v6) (hm : m ≤ wd b.v6) (h1 : nodeAt T.ar a k = some i) (h2 : nodeAt T.ar b m = some i) : pof a k = pof b m := by
  have hn := (List.nodup_append.1 h.nodup).1
  have m1 := h.mem hk h1
  have m2 := h.mem hm h2
  have e : (nodeT T (pof a k)).getD 0 = (nodeT T (pof b m)).getD 0 := by rw [nodeT_pof T a k hk, nodeT_pof T b m hm, h1, h2]
  have key : ∀ (l : List Pf) (f : Pf → Nat), (l.map f).Nodup → ∀ x ∈ l, ∀ y ∈ l, f x = f y → x = y := by
    intro l f
    induction l with
    | nil => intro _ x hx; cases hx
    | cons z l ih =>
      intro hl x hx y hy hxy
      simp only [List.map_cons, List.nodup_cons, List.mem_map, not_exists, not_and] at hl
      rcases List.mem_cons.1 hx with e1 | hx'
      · rcases List.mem_cons.1 hy with e2 | hy'
        · rw [e1, e2]
        · rw [e1] at hxy
          exact absurd hxy.symm (hl.1 y hy')
      · rcases List.mem_cons.1 hy with e2 | hy'
        · rw [e2] at hxy
          exact absurd hxy (hl.1 x hx')
        · exact ih hl.2 x hx' y hy' hxy
  exact key ns _ hn _ m1 _ m2 e
theorem Base.idx (h : Base T ns) {a : Ad} {k i : Nat} (hk : k ≤ wd a.v6) (hi : nodeAt T.ar a k = some i) : i ∈ ns.map (fun q => (nodeT T q).getD 0) :=
  List.mem_map.2 ⟨pof a k, h.mem hk hi, by rw [nodeT_pof T a k hk, hi]; rfl⟩
theorem Base.notfree (h : Base T ns) {a : Ad} {k i : Nat} (hk : k ≤ wd a.v6) (hi : nodeAt T.ar a k = some i) : i ∉ T.fr := fun hf => (List.nodup_append.1 h.nodup).2.2 i (h.idx hk hi) i hf rfl
theorem Base.lt (h : Base T ns) {a : Ad} {k i : Nat} (hk : k ≤ wd a.v6) (hi : nodeAt T.ar a k = some i) : i < T.ar.length := by
  have := h.perm.mem_iff.1 (List.mem_append_left _ (h.idx hk hi))
  simpa using this
theorem Base.len (h : Base T ns) : ns.length + T.fr.length = T.ar.length := by
  have := h.perm.length_eq
  simpa using this
theorem Base.root (h : Base T ns) (v : Bool) : ∀ i ∈ T.fr, i ≠ rootN v := by
  rintro i hi rfl
  exact h.notfree (a := ⟨0#64, 0#64, v⟩) (k := 0) (Nat.zero_le _) rfl hi
theorem take_getD (T : Tr) (i : Nat) : (takeT T).ar.getD i nd0 = T.ar.getD i nd0 := by
  unfold takeT
  split
  · show (T.ar ++ [nd0]).getD i nd0 = _
    by_cases h : i < T.ar.length
    · simp [h, List.getElem?_append_left h]
    · by_cases h2 : i = T.ar.length
      · subst h2
        simp
      · have e1 : (T.ar ++ [nd0])[i]? = none := List.getElem?_eq_none (by simp; omega)
        have e2 : T.ar[i]? = none := List.getElem?_eq_none (by omega)
        rw [List.getD_eq_getElem?_getD, List.getD_eq_getElem?_getD, e1, e2]
  · rfl
/-- The new node is none of those that there are. -/
theorem Base.fresh (h : Base T ns) {a : Ad} {k i : Nat} (hk : k ≤ wd a.v6) (hi : nodeAt T.ar a k = some i) : i ≠ takeI T := by
  unfold takeI
  split
  · have := h.lt hk hi
    omega
  · rename_i hf
    intro e
    have e1 : T.fr.getLastD 0 = T.fr.getLast hf := by
      rw [List.getLastD_eq_getLast?, List.getLast?_eq_some_getLast hf]
      rfl
    exact h.notfree hk hi (by rw [e, e1]; exact List.getLast_mem hf)
theorem Base.take0 (h : Base T ns) : T.ar.getD (takeI T) nd0 = nd0 := by
  unfold takeI
  split
  · rw [List.getD_eq_getElem?_getD, List.getElem?_eq_none (Nat.le_refl _)]
    rfl
  · rename_i hf
    have e1 : T.fr.getLastD 0 = T.fr.getLast hf := by
      rw [List.getLastD_eq_getLast?, List.getLast?_eq_some_getLast hf]
      rfl
    rw [e1]
    exact h.zero _ (List.getLast_mem hf)
end

end Go.Proofs.YtcbfppangiopeaaGreat
