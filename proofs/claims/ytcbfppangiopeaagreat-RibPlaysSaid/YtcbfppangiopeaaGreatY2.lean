/-
  What Sibling, Join and Compare of the document's answer for layer 2 return. No condition.
-/
import Derived.Test.YtcbfppangiopeaaGreatY1
import Derived.Maps.OwnSet
import Derived.Laws.AppendOwnNone
import Derived.Deep.DeepCutAuto
import Derived.Deep.RegionHeld3
import Derived.Test.YtcbfppangiopeaaGreatRefA
namespace Go.Proofs.YtcbfppangiopeaaGreat
open Go.RowKit Go.Maps
set_option maxRecDepth 100000

/-- How many unlike numbers. -/
def unl : List Int → Nat
  | [] => 0
  | x :: r => unl r + if x ∈ r then 0 else 1
theorem unl_perm {a b : List Int} (h : a.Perm b) : unl a = unl b := by
  induction h with
  | nil => rfl
  | cons x h ih => simp only [unl, ih, h.mem_iff]
  | swap x y l =>
    simp only [unl, List.mem_cons]
    by_cases h1 : x = y
    · subst h1
      rfl
    · have h2 : ¬ y = x := fun e => h1 e.symm
      by_cases h3 : x ∈ l <;> by_cases h4 : y ∈ l <;> simp [h1, h2, h3, h4]
  | trans _ _ i1 i2 => rw [i1, i2]
theorem unl_le (l : List Int) : unl l ≤ l.length := by
  induction l with
  | nil => exact Nat.le_refl _
  | cons x r ih =>
    simp only [unl, List.length_cons]
    split <;> omega
/-- A list without doubles that has the same numbers is as long. -/
theorem unl_dist : ∀ {l d : List Int}, d.Nodup → (∀ x, x ∈ d ↔ x ∈ l) → d.length = unl l := by
  intro l
  induction l with
  | nil =>
    intro d _ h
    have : d = [] := List.eq_nil_iff_forall_not_mem.2 fun x hx => by have := (h x).1 hx; cases this
    subst this
    rfl
  | cons y r ih =>
    intro d hd h
    simp only [unl]
    by_cases hy : y ∈ r
    · rw [if_pos hy]
      exact ih hd fun x => by
        rw [h x, List.mem_cons]
        exact ⟨fun e => e.elim (fun e => e ▸ hy) id, .inr⟩
    · rw [if_neg hy]
      have hyd : y ∈ d := (h y).2 (List.mem_cons_self)
      have h1 := ih (d := d.erase y) (hd.erase y) (fun x => by
        rw [hd.mem_erase_iff, h x, List.mem_cons]
        constructor
        · rintro ⟨e1, e2⟩
          exact e2.elim (fun e => absurd e e1) id
        · intro hx
          exact ⟨fun e => hy (e ▸ hx), .inr hx⟩)
      have h2 := List.length_erase_of_mem hyd
      have h3 := List.length_pos_of_mem hyd
      omega
def hopsL (L : List Pr) : List Int := L.map (·.v)
theorem mem_hops {L : List Pr} {k : Int} : k ∈ hopsL L ↔ ∃ x ∈ L, x.v = k := by
  unfold hopsL
  exact List.mem_map
theorem put_perm {L : List Pr} {p : Pf} {v : Int} (h : Srt L) (hp : psane p = true) : (putL p v L).Perm (⟨p, v⟩ :: delL p L) := by
  have h1 : (putL p v L).Nodup := (put_srt (v := v) h hp).2.imp (fun {x y} hxy e => by rw [e, pcmp_self] at hxy; omega)
  have h2 : (⟨p, v⟩ :: delL p L).Nodup := by
    rw [List.nodup_cons]
    refine ⟨fun e => ((mem_del _).1 e).2 rfl, ?_⟩
    exact (del_srt (p := p) h).2.imp (fun {x y} hxy e => by rw [e, pcmp_self] at hxy; omega)
  refine (List.perm_ext_iff_of_nodup h1 h2).2 fun x => ?_
  rw [mem_put h hp, List.mem_cons, mem_del]
theorem del_perm {L : List Pr} {p : Pf} {v : Int} (h : Srt L) (hl : lk L p = some v) : L.Perm (⟨p, v⟩ :: delL p L) := by
  have h1 : L.Nodup := h.2.imp (fun {x y} hxy e => by rw [e, pcmp_self] at hxy; omega)
  have h2 : (⟨p, v⟩ :: delL p L).Nodup := by
    rw [List.nodup_cons]
    refine ⟨fun e => ((mem_del _).1 e).2 rfl, ?_⟩
    exact (del_srt (p := p) h).2.imp (fun {x y} hxy e => by rw [e, pcmp_self] at hxy; omega)
  refine (List.perm_ext_iff_of_nodup h1 h2).2 fun x => ?_
  rw [List.mem_cons, mem_del]
  constructor
  · intro hx
    by_cases e : x.p = p
    · left
      have := lk_some h hx
      rw [e, hl] at this
      cases x
      simp_all
    · exact .inr ⟨hx, e⟩
  · rintro (rfl | ⟨h1, _⟩)
    · exact lk_mem hl
    · exact h1
theorem hops_put {L : List Pr} {p : Pf} {v : Int} (h : Srt L) (hp : psane p = true) : (hopsL (putL p v L)).Perm (v :: hopsL (delL p L)) := (put_perm h hp).map _
theorem hops_del {L : List Pr} {p : Pf} {v : Int} (h : Srt L) (hl : lk L p = some v) : (hopsL L).Perm (v :: hopsL (delL p L)) := (del_perm h hl).map _
theorem unl_cons (x : Int) (r : List Int) : unl (x :: r) = unl r + if r.count x = 0 then 1 else 0 := by
  simp only [unl]
  by_cases h : x ∈ r
  · rw [if_pos h, if_neg (by have := List.count_pos_iff.2 h; omega)]
  · rw [if_neg h, if_pos (List.count_eq_zero.2 h)]
/-- How many unlike hops there would be then. -/
theorem hops_then {L : List Pr} {p : Pf} {v : Int} (h : Srt L) (hp : psane p = true) :
    (unl (hopsL (putL p v L)) : Int) = unl (hopsL L) - (match lk L p with | none => 0 | some o => if o ≠ v ∧ (hopsL L).count o = 1 then 1 else 0) + (if (hopsL L).count v = 0 then 1 else 0) := by
  rw [unl_perm (hops_put h hp), unl_cons]
  cases hl : lk L p with
  | none =>
    rw [del_none hl]
    simp only
    split <;> omega
  | some o =>
    have hh := hops_del h hl
    have hc : ∀ k, (hopsL L).count k = (hopsL (delL p L)).count k + if o = k then 1 else 0 := by
      intro k
      rw [hh.count_eq, List.count_cons]
      by_cases e : o = k
      · simp [e]
      · simp [e]
    rw [unl_perm hh, unl_cons]
    simp only
    rw [hc o, hc v]
    simp only [if_true]
    by_cases e : o = v
    · subst e
      simp
    · simp only [e, ne_eq, not_false_eq_true, true_and, if_false, Nat.add_zero]
      by_cases e1 : (hopsL (delL p L)).count o = 0
      · simp [e1]
        split <;> rfl
      · simp [e1]
        split <;> rfl

/-- A number as the map's datum. -/
abbrev i64 (x : Int) : DataW Unit := .lit (.int .i64 x)
/-- What a map says of a list of numbers: which there are, how often, and how many unlike. -/
structure Uses (D : DataW Unit) (hs : List Int) : Prop where
  tidy : Tidy D
  has : ∀ k, Maps.has D (.int .i64 k) = decide (0 < hs.count k)
  at_ : ∀ k, D.atKey (.int .i64 k) (i64 0) = i64 (hs.count k : Int)
  size : Maps.size D = unl hs
theorem uses_nil : Uses (.map []) [] := ⟨tidy_empty, fun _ => rfl, fun _ => rfl, rfl⟩
theorem count_ne {j k : Int} {hs : List Int} (e : ¬ j = k) : (k :: hs).count j = hs.count j := by
  have e' : ¬ k = j := fun h => e h.symm
  simp [e']
theorem Uses.perm {D : DataW Unit} {a b : List Int} (h : Uses D a) (hp : a.Perm b) : Uses D b :=
  ⟨h.tidy, fun k => by rw [h.has, hp.count_eq], fun k => by rw [h.at_, hp.count_eq], by rw [h.size, unl_perm hp]⟩
theorem key_int (k : Int) : WideAt.IsKeyLit (.int .i64 k) := by trivial
theorem int_ne {a b : Int} (h : a ≠ b) : (Lit.int .i64 a) ≠ Lit.int .i64 b := fun e => h (by cases e; rfl)
theorem Uses.use {D : DataW Unit} {hs : List Int} (h : Uses D hs) (k : Int) : Uses (D.put (.int .i64 k) (i64 ((hs.count k : Int) + 1))) (k :: hs) := by
  refine ⟨h.tidy.put (key_int k) _, fun j => ?_, fun j => ?_, ?_⟩
  · by_cases e : j = k
    · subst e
      rw [has_put_same h.tidy.isMap (key_int _)]
      simp
    · rw [has_put_other (int_ne e), h.has, count_ne e]
  · by_cases e : j = k
    · subst e
      rw [atKey_put_same h.tidy.isMap (key_int _)]
      simp
    · rw [atKey_put_other (int_ne e), h.at_, count_ne e]
  · rw [size_put h.tidy, h.has, h.size, unl_cons]
    by_cases e : hs.count k = 0
    · simp [e]
    · have : 0 < hs.count k := by omega
      simp [e, this]
theorem Uses.less {D : DataW Unit} {hs : List Int} {k : Int} (h : Uses D (k :: hs)) (h0 : hs.count k ≠ 0) : Uses (D.put (.int .i64 k) (i64 (hs.count k : Int))) hs := by
  refine ⟨h.tidy.put (key_int k) _, fun j => ?_, fun j => ?_, ?_⟩
  · by_cases e : j = k
    · subst e
      rw [has_put_same h.tidy.isMap (key_int _)]
      simp
      exact List.count_pos_iff.1 (by omega)
    · rw [has_put_other (int_ne e), h.has, count_ne e]
  · by_cases e : j = k
    · subst e
      rw [atKey_put_same h.tidy.isMap (key_int _)]
    · rw [atKey_put_other (int_ne e), h.at_, count_ne e]
  · rw [size_put h.tidy, h.has, h.size, unl_cons, if_neg h0]
    simp
theorem Uses.last {D : DataW Unit} {hs : List Int} {k : Int} (h : Uses D (k :: hs)) (h0 : hs.count k = 0) (d : DataW Unit) : Uses ((D.put (.int .i64 k) d).del (.int .i64 k)) hs := by
  have ht := h.tidy.put (key_int k) d
  refine ⟨ht.del _, fun j => ?_, fun j => ?_, ?_⟩
  · by_cases e : j = k
    · subst e
      rw [has_del_same, h0]
      rfl
    · rw [has_del_other (int_ne e), has_put_other (int_ne e), h.has, count_ne e]
  · by_cases e : j = k
    · subst e
      rw [atKey_del_same, h0]
      rfl
    · rw [atKey_del_other (int_ne e), atKey_put_other (int_ne e), h.at_, count_ne e]
  · have h1 := size_del (k := .int .i64 k) ht
    rw [has_put_same h.tidy.isMap (key_int _), size_put h.tidy, h.has, h.size, unl_cons, if_pos h0] at h1
    simp at h1
    omega

end Go.Proofs.YtcbfppangiopeaaGreat

namespace Go.Proofs.YtcbfppangiopeaaGreat
open Go.RowKit
set_option maxRecDepth 100000

/-- Pairs laid behind pairs. -/
theorem pairs_append (W : World) (base base' : Nat) (v v2 : Value) (a b : List Pr) (ty : TypeId) (hown : W.ownsRow base 90 5 v a.length (prv a)) (h2 : W.ownsRow base' 90 5 v2 b.length (prv b)) (hb : a.length + b.length ≤ 1000000000) (hbase : base ≤ W.heap.size) :
    ∃ v' w', (Builtin.append_ #[95, 95] ty #[v, v2]).run Tryz.prog W = .ok v' w' ∧ w'.ownsRow base 90 5 v' (a ++ b).length (prv (a ++ b)) ∧ W.grownBy w' v.ownBlock := by
  obtain ⟨i0, hi0, hz0, hz1, hz2⟩ := info_parts info_pr
  rcases h2.2 with ⟨rfl, hn⟩ | ⟨g, cap, cur, rfl, _, hg, hnc, hm, hs, ht⟩
  · have e : b = [] := List.eq_nil_of_length_eq_zero hn
    subst e
    refine ⟨v, W, ?_, by simpa using hown, World.grownBy.refl W _⟩
    rcases hown.2 with ⟨rfl, h0⟩ | ⟨g, cap, cur, rfl, _, _, hnc, _⟩
    · simp [Builtin.append_, run_underlying Tryz.underlying95, sizeOf, typeInfo, hi0, Builtin.lenOf, Builtin.firstCells]
    · simp [Builtin.append_, run_underlying Tryz.underlying95, sizeOf, typeInfo, hi0, Builtin.lenOf, Builtin.firstCells, hnc, storeCells]
  · obtain ⟨v', w', e1, e2, e3, _, _⟩ := run_append_own_at (P := Tryz.prog) W base 95 ty 90 i0 _ 5 40 Tryz.underlying95 hi0 hz0 hz1 hz2 rfl (by omega) v a.length _ hown ⟨g, 0, none⟩ b.length cap (prv b) (prv_len b) (h2.cells (g := g) rfl) (by
      intro u hu
      unfold prv at hu
      obtain ⟨x, _, hx⟩ := List.mem_flatMap.1 hu
      exact pr5_cell x u hx) (by simp only [maxLen]; omega) (by omega) hbase
    exact ⟨v', w', e1, by rw [prv_append, List.length_append]; exact e2, e3⟩
section
variable {ops : Array Oper} {o : Oper} {a : Act} {w : World} {Q : Exit → Act → World → Prop}
theorem wpList_pairs {rest : List Oper} (hgd : o.guard = none) (s x : Operand) (ho : o.op = .call { callee := .builtin .append, args := #[s, x], argTypes := #[95, 95] }) (base base' : Nat) (v v2 : Value) (l m : List Pr) (hs : a.eval s = v) (hx : a.eval x = v2) (hown : w.ownsRow base 90 5 v l.length (prv l)) (h2 : w.ownsRow base' 90 5 v2 m.length (prv m))
    (hb : l.length + m.length ≤ 1000000000) (hbase : base ≤ w.heap.size)
    (h : ∀ v' w', w'.ownsRow base 90 5 v' (l ++ m).length (prv (l ++ m)) → Below base w w' → wpList Tryz.prog ops Q rest (a.put o.dst v') w') : wpList Tryz.prog ops Q (o :: rest) a w := by
  refine wpList_plain hgd fun _ hK => ?_
  obtain ⟨v', w', e1, e2, e3⟩ := pairs_append w base base' v v2 l m o.type hown h2 hb hbase
  unfold Oper.wp execOp
  simp only [ho, resolve, invoke, builtin, Sem.run_bind, Sem.run_pure, Result.andThen_ok, List.map_toArray, List.map_cons, List.map_nil, hs, hx, e1]
  exact hK _ _ (h v' w' e2 ((Below.refl base w).grown e3 hbase (own_ge hown)))
end
def root4 : Pf := ⟨⟨0#64, 0#64, false⟩, 0⟩
def root6 : Pf := ⟨⟨0#64, 0#64, true⟩, 0⟩
theorem root_sane : psane root4 = true ∧ psane root6 = true := by decide +kernel
theorem cov_root {p : Pf} (hp : psane p = true) : pcov root4 p = !p.a.v6 ∧ pcov root6 p = p.a.v6 := by
  have h0 := (psane_bd hp).1
  have key : ∀ r : Pf, psane r = true → r.n = 0 → (pcov r p = true ↔ r.a.v6 = p.a.v6) := by
    intro r hr hn
    rw [pcov_iff]
    constructor
    · exact fun h => h.2.2.2.1
    · intro h
      refine ⟨hr, hp, by omega, h, fun j hj => ?_⟩
      rw [hn] at hj
      rw [D_ge _ _ (by omega), D_ge _ _ (by omega)]
  have k4 := key root4 root_sane.1 rfl
  have k6 := key root6 root_sane.2 rfl
  cases hv : p.a.v6
  · rw [hv] at k4 k6
    refine ⟨k4.2 rfl, ?_⟩
    cases hc : pcov root6 p
    · rfl
    · exact absurd (k6.1 hc) (by simp [root6])
  · rw [hv] at k4 k6
    refine ⟨?_, k6.2 rfl⟩
    cases hc : pcov root4 p
    · rfl
    · exact absurd (k4.1 hc) (by simp [root4])
/-- Those of the fourth version, then those of the sixth, are all. -/
theorem all_eq {L : List Pr} (h : Srt L) : (L.filter fun x => pcov root4 x.p) ++ (L.filter fun x => pcov root6 x.p) = L := by
  refine srt_ext ⟨fun x hx => ?_, ?_⟩ h (fun x => ?_)
  · rcases List.mem_append.1 hx with hx | hx
    · exact h.1 x (List.mem_filter.1 hx).1
    · exact h.1 x (List.mem_filter.1 hx).1
  · rw [List.pairwise_append]
    refine ⟨(filter_srt h _).2, (filter_srt h _).2, fun x hx y hy => ?_⟩
    obtain ⟨x1, x2⟩ := List.mem_filter.1 hx
    obtain ⟨y1, y2⟩ := List.mem_filter.1 hy
    have e1 := (cov_root (h.1 x x1)).1
    have e2 := (cov_root (h.1 y y1)).2
    rw [x2] at e1
    rw [y2] at e2
    have v1 : x.p.a.v6 = false := by simpa using e1.symm
    have := cmp_kind x.p.a y.p.a (by rw [v1, ← e2]; simp)
    rw [← e2] at this
    unfold pcmp
    rw [this]
    simp
  · rw [List.mem_append, List.mem_filter, List.mem_filter]
    constructor
    · rintro (⟨a, _⟩ | ⟨a, _⟩) <;> exact a
    · intro hx
      have := cov_root (h.1 x hx)
      rw [this.1, this.2]
      cases x.p.a.v6
      · exact .inl ⟨hx, rfl⟩
      · exact .inr ⟨hx, rfl⟩
theorem own_fresh {w w' : World} {b1 : Nat} {e : TypeId} {size n : Nat} {v : Value} {xs : List Value} (h : w.ownsRow b1 e size v n xs) (hb : Below w.heap.size w w') : w'.ownsRow b1 e size v n xs := own_block h (fun b _ hl => hb.block b hl)
end Go.Proofs.YtcbfppangiopeaaGreat

namespace Go.Proofs.YtcbfppangiopeaaGreat
open Go.RowKit Go.Maps
set_option maxRecDepth 100000

theorem lawI : Keyed Tryz.prog 3 := int_keyed Tryz.underlying3
theorem zeroI (w : World) : (zeroValue 3).run Tryz.prog w = .ok (.int .i64 0) w := by kernel_rfl
def cnts (w : World) (m n : Nat) (D : DataW Unit) : Prop := w.ownsMap Tryz.prog 3 (plainElem (H := Unit) Tryz.prog 3) m n D
theorem Trie.frm {S R : Nat → Prop} {w w' : World} {t : Nat} {L : List Pr} {most : Nat} (h : Trie w t S L most) (hf : Frm R w w') (hd : ∀ b, S b → ¬ R b) : Trie w' t S L most := by
  obtain ⟨T, ⟨vA, vF, rfl, h1⟩, h2⟩ := h
  exact ⟨T, ⟨vA, vF, rfl, h1.frm hf hd⟩, h2⟩
theorem cnts_tight {w : World} {m n : Nat} {D : DataW Unit} (h : cnts w m n D) : cnts w m (Maps.size D) D := by
  obtain ⟨es, clock, hb, F, hs, hD⟩ := h
  refine ⟨es, clock, hb, F, ?_, hD⟩
  rw [hD]
  simp [Maps.size, length_sorted]
theorem cnts_frm {S : Nat → Prop} {w w' : World} {m n : Nat} {D : DataW Unit} (h : cnts w m n D) (hf : Frm S w w') (hn : ¬ S m) : cnts w' m n D := by
  have hl := World.ownsMap.lt h
  obtain ⟨es, clock, hb, F, hs, hD⟩ := h
  exact ⟨es, clock, (hf.block m hl hn).trans hb, F, hs, hD⟩
theorem frm_turned {w w' : World} {m : Nat} (h : w.mapTurned w' m) : Frm (fun b => b = m) w w' :=
  (Frm.refl (fun b => b = m) w).grown h.grown (fun k hk => .inl (by cases hk; rfl))
/-- The routes lie at block r: the tree at t, the counts of hs at m. -/
structure RibA (w : World) (r t m : Nat) (S0 : Nat → Prop) (D : DataW Unit) (n h : Int) (L : List Pr) (most : Nat) (hs : List Int) : Prop where
  blk : w.heap[r]? = some (.cells #[.pointer (some ⟨t, 0, none⟩), .map (some m), .int .i64 n, .int .i64 h] 60 (0, 0))
  tree : Trie w t S0 L most
  map : cnts w m (Maps.size D) D
  uses : Uses D hs
  d1 : ¬ S0 r
  d2 : ¬ S0 m
  d3 : r ≠ m
/-- What routes keep to. -/
structure Inv (n h : Int) (L : List Pr) : Prop where
  hop : ∀ x ∈ L, 0 ≤ x.v ∧ x.v ≤ 65535
  n0 : 0 ≤ n ∧ n ≤ 4096
  h0 : 0 ≤ h ∧ h ≤ 65536
  few : (L.length : Int) ≤ n
  like : (unl (hopsL L) : Int) ≤ h
def ribS (r m : Nat) (S0 : Nat → Prop) (b : Nat) : Prop := b = r ∨ b = m ∨ S0 b
def RibS (w : World) (r : Nat) (S : Nat → Prop) (n h : Int) (L : List Pr) (most : Nat) : Prop := ∃ t m S0 D, RibA w r t m S0 D n h L most (hopsL L) ∧ Inv n h L ∧ S = ribS r m S0

theorem RibA.lt {w : World} {r t m : Nat} {S0 : Nat → Prop} {D : DataW Unit} {n h : Int} {L : List Pr} {most : Nat} {hs : List Int} (H : RibA w r t m S0 D n h L most hs) : r < w.heap.size := lt_of_block H.blk
theorem RibA.keep {w w' : World} {r t m : Nat} {S0 : Nat → Prop} {D : DataW Unit} {n h : Int} {L : List Pr} {most : Nat} {hs : List Int} (H : RibA w r t m S0 D n h L most hs) (hb : Below w.heap.size w w') : RibA w' r t m S0 D n h L most hs :=
  { H with blk := (hb.block _ H.lt).trans H.blk, tree := H.tree.keep hb, map := cnts_frm H.map (frm_of_below (S := fun _ => False) hb) id }
theorem RibS.keep {w w' : World} {r : Nat} {S : Nat → Prop} {n h : Int} {L : List Pr} {most : Nat} (H : RibS w r S n h L most) (hb : Below w.heap.size w w') : RibS w' r S n h L most := by
  obtain ⟨t, m, S0, D, H, hI, e⟩ := H
  exact ⟨t, m, S0, D, H.keep hb, hI, e⟩
theorem RibS.lt {w : World} {r : Nat} {S : Nat → Prop} {n h : Int} {L : List Pr} {most : Nat} (H : RibS w r S n h L most) : ∀ b, S b → b < w.heap.size := by
  obtain ⟨t, m, S0, D, H, hI, rfl⟩ := H
  rintro b (rfl | rfl | hb)
  · exact H.lt
  · exact World.ownsMap.lt H.map
  · exact H.tree.lt b hb
theorem RibS.srt {w : World} {r : Nat} {S : Nat → Prop} {n h : Int} {L : List Pr} {most : Nat} (H : RibS w r S n h L most) : Srt L := by
  obtain ⟨t, m, S0, D, H, hI, rfl⟩ := H
  exact H.tree.srt
/-- The cells of the block. -/
theorem RibA.cells {w : World} {r t m : Nat} {S0 : Nat → Prop} {D : DataW Unit} {n h : Int} {L : List Pr} {most : Nat} {hs : List Int} (H : RibA w r t m S0 D n h L most hs) :
    w.cell? ⟨r, 0, none⟩ = some (.pointer (some ⟨t, 0, none⟩)) ∧ w.cell? ⟨r, 1, none⟩ = some (.map (some m)) ∧ w.cell? ⟨r, 2, none⟩ = some (.int .i64 n) ∧ w.cell? ⟨r, 3, none⟩ = some (.int .i64 h) :=
  ⟨by rw [cell_row H.blk]; rfl, by rw [cell_row H.blk]; rfl, by rw [cell_row H.blk]; rfl, by rw [cell_row H.blk]; rfl⟩
theorem wf_hop {k : Int} (h : 0 ≤ k ∧ k ≤ 65535) : (Lit.int .i64 k).wf = true := WalkArith.wf_i64 (by omega)
theorem cnts_look {w : World} {m n : Nat} {D : DataW Unit} {k c : Int} (h : cnts w m n D) (hk : 0 ≤ k ∧ k ≤ 65535) (hat : D.atKey (.int .i64 k) (i64 0) = i64 c) :
    (Instr.lookup 58 (.map (some m)) (.int .i64 k) false).run Tryz.prog w = .ok (.int .i64 c) w := by
  obtain ⟨c', hrun, hat', hwc⟩ := World.ownsMap.lookup_int h lawI Tryz.underlying58 Tryz.underlying3 (zeroI w) (keyOf_int_mk Tryz.underlying3 (wf_hop hk))
  rw [hat'] at hat
  simp only [DataW.lit.injEq, Lit.int.injEq, true_and] at hat
  rw [hrun, hat]
theorem RibA.look {w : World} {r t m : Nat} {S0 : Nat → Prop} {D : DataW Unit} {n h : Int} {L : List Pr} {most : Nat} {hs : List Int} (H : RibA w r t m S0 D n h L most hs) {k : Int} (hk : 0 ≤ k ∧ k ≤ 65535) :
    (Instr.lookup 58 (.map (some m)) (.int .i64 k) false).run Tryz.prog w = .ok (.int .i64 (hs.count k : Int)) w := cnts_look H.map hk (H.uses.at_ k)
theorem RibA.len {w : World} {r t m : Nat} {S0 : Nat → Prop} {D : DataW Unit} {n h : Int} {L : List Pr} {most : Nat} {hs : List Int} (H : RibA w r t m S0 D n h L most hs) (ty : TypeId) :
    (Builtin.len_ #[58] ty #[.map (some m)]).run Tryz.prog w = .ok (.int .i64 (unl hs : Int)) w := by
  rw [World.ownsMap.len H.map Tryz.underlying58 ty, H.uses.size]

section
variable {w : World} {r t m : Nat} {S0 : Nat → Prop} {D : DataW Unit} {n h : Int} {L : List Pr} {most : Nat} {hs : List Int}
set_option maxHeartbeats 400000 in
theorem routes_any (H : RibA w r t m S0 D n h L most hs) : Calls Tryz.prog 41 #[.pointer (some ⟨r, 0, none⟩)] w fun e w' => e = .returned (.pointer (some ⟨t, 0, none⟩)) ∧ w = w' := by
  obtain ⟨c0, -, -, -⟩ := H.cells
  clear H
  go_enter Tryz.func41, Tryz.ntmps41
  go_wp2
  go_ret
  exact ⟨rfl, rfl⟩
/-- What release leaves. -/
def RelPost (w : World) (r t m : Nat) (S0 : Nat → Prop) (n h : Int) (L : List Pr) (most : Nat) (hs : List Int) (e : Ending) (w' : World) : Prop := e = .returned (.tuple #[]) ∧ ∃ D', RibA w' r t m S0 D' n h L most hs ∧ Frm (fun b => b = m) w w'
theorem RibA.turned {w w' : World} {r t m : Nat} {S0 : Nat → Prop} {D D' : DataW Unit} {n h : Int} {L : List Pr} {most k : Nat} {hs hs' : List Int} (H : RibA w r t m S0 D n h L most hs) (ht : w.mapTurned w' m) (ho : cnts w' m k D') (hu : Uses D' hs') : RibA w' r t m S0 D' n h L most hs' := by
  have hf := frm_turned ht
  exact ⟨(hf.block r H.lt H.d3).trans H.blk, H.tree.frm hf (fun b hb e => H.d2 (e ▸ hb)), cnts_tight ho, hu, H.d1, H.d2, H.d3⟩
theorem wf_small {c : Nat} (h : c ≤ 1000000) : (Lit.int .i64 (c : Int)).wf = true := WalkArith.wf_i64 (by omega)
theorem count_le (hs : List Int) (k : Int) : hs.count k ≤ hs.length := List.count_le_length

set_option maxHeartbeats 1000000 in
theorem release_any {o : Int} (H : RibA w r t m S0 D n h L most (o :: hs)) (ho : 0 ≤ o ∧ o ≤ 65535) (hl : hs.length ≤ 100000) : Calls Tryz.prog 37 #[.pointer (some ⟨r, 0, none⟩), .int .i64 o] w (RelPost w r t m S0 n h L most hs) := by
  have HH := Lib.hid H
  obtain ⟨-, c1, -, -⟩ := H.cells
  have lk1 := H.look ho
  rw [show (((o :: hs).count o : Nat) : Int) = (hs.count o : Int) + 1 from by simp] at lk1
  have hcl := count_le hs o
  have hsz : Maps.size D ≤ 100001 := by
    rw [H.uses.size]
    have := unl_le (o :: hs)
    simp only [List.length_cons] at this
    omega
  have hown := H.map
  have hwf : (Lit.int .i64 (hs.count o : Int)).wf = true := wf_small (by omega)
  have hkey := keyOf_int_mk Tryz.underlying3 (wf_hop ho)
  obtain ⟨c, hc⟩ : ∃ c, hs.count o = c := ⟨_, rfl⟩
  rw [hc] at lk1 hwf hcl
  have HO := Lib.hid hown
  have HC := Lib.hid hc
  have HK := Lib.hid hkey
  have HWF := Lib.hid hwf
  have hd3 := H.d3
  have hrz := H.lt
  clear H hown hc hkey hwf
  by_cases hc0 : c = 0
  · subst hc0
    have HC0 := HC
    go_enter Tryz.func37, Tryz.ntmps37
    go_wp2_with (first
      | (at_mapUpdate; refine wpList_mapUpdate_in _ rfl _ _ _ 58 rfl 3 3 lawI Tryz.underlying58 (plainElem (H := Unit) Tryz.prog 3) m _ D rfl HO.out (by unfold maxLen; omega) _ _ _ rfl rfl HK.out _ [] (plainElem_int Tryz.underlying3 (a := 0) HWF.out) ?_; intro w1 hown1 hturn1; have d1 := ((frm_turned hturn1).cell (p := ⟨r, 1, none⟩) hrz hd3).trans c1; have lk2 := cnts_look hown1 ho (atKey_put_same HH.out.uses.tidy.isMap (key_int o) _ _); have HO1 := Lib.hid hown1; have HT1 := Lib.hid hturn1; clear hown1 hturn1)
      | (at_delete; refine wpList_delete_own _ rfl _ _ 58 3 rfl 3 lawI Tryz.underlying58 (plainElem (H := Unit) Tryz.prog 3) m _ _ rfl HO1.out _ _ rfl HK.out ?_; intro w2 hown2 hturn2; have HO2 := Lib.hid hown2; have HT2 := Lib.hid hturn2; clear hown2 hturn2)
      | fail)
    go_end0
    exact ⟨rfl, _, HH.out.turned (HT1.out.trans HT2.out) HO2.out (HH.out.uses.last HC.out _), frm_turned (HT1.out.trans HT2.out)⟩
  · have t1 : ((c : Int) == 0) = false := by simp; omega
    go_enter Tryz.func37, Tryz.ntmps37
    go_wp2_with (first
      | (at_mapUpdate; refine wpList_mapUpdate_in _ rfl _ _ _ 58 rfl 3 3 lawI Tryz.underlying58 (plainElem (H := Unit) Tryz.prog 3) m _ D rfl HO.out (by unfold maxLen; omega) _ _ _ rfl rfl HK.out _ [] (plainElem_int Tryz.underlying3 HWF.out) ?_; intro w1 hown1 hturn1; have d1 := ((frm_turned hturn1).cell (p := ⟨r, 1, none⟩) hrz hd3).trans c1; have lk2 := cnts_look hown1 ho (atKey_put_same HH.out.uses.tidy.isMap (key_int o) _ _); have HO1 := Lib.hid hown1; have HT1 := Lib.hid hturn1; clear hown1 hturn1)
      | fail)
    go_end0
    have hu := HH.out.uses.less (by rw [HC.out]; exact hc0)
    rw [HC.out] at hu
    exact ⟨rfl, _, HH.out.turned HT1.out HO1.out hu, frm_turned HT1.out⟩
/-- Would there be room then? -/
def fitsB (n h : Int) (L : List Pr) (p : Pf) (k : Int) : Bool := decide (((putL p k L).length : Int) ≤ n) && decide ((unl (hopsL (putL p k L)) : Int) ≤ h)

set_option maxHeartbeats 2000000 in
theorem fits_any (H : RibA w r t m S0 D n h L most (hopsL L)) (hI : Inv n h L) (p : Pf) (hp : psane p = true) (k : Int) (hk : 0 ≤ k ∧ k ≤ 65535) : Calls Tryz.prog 35 #[.pointer (some ⟨r, 0, none⟩), .agg #[.int .u64 (u p.a.hi), .int .u64 (u p.a.lo), .bool p.a.v6, .int .i64 p.n], .int .i64 k] w fun e w' => e = .returned (.bool (fitsB n h L p k)) ∧ Below w.heap.size w w' := by
  have HH := Lib.hid H
  have hs := H.tree.srt
  have hl1 := put_len (v := k) hs hp
  have hl2 := hops_then (v := k) hs hp
  have hg : getQ p L = lk L p := by unfold getQ; rw [if_pos hp]
  have hul := unl_le (hopsL L)
  have hlen : (hopsL L).length = L.length := List.length_map _
  have hn := hI.n0
  have hh := hI.h0
  have hf := hI.few
  have hlk : ∀ o, lk L p = some o → 0 ≤ o ∧ o ≤ 65535 := fun o ho => hI.hop _ (lk_mem ho)
  have HF : Hid (fitsB n h L p k = (decide (((putL p k L).length : Int) ≤ n) && decide ((unl (hopsL (putL p k L)) : Int) ≤ h))) := Lib.hid rfl
  have HG := Lib.hid hg
  have HLK := Lib.hid hlk
  generalize (putL p k L).length = PL at hl1 HF
  generalize unl (hopsL (putL p k L)) = PU at hl2 HF
  obtain ⟨UL, hUL⟩ : ∃ UL, unl (hopsL L) = UL := ⟨_, rfl⟩
  rw [hUL] at hl2 hul
  have HUL := Lib.hid hUL
  obtain ⟨G, hG⟩ : ∃ G, lk L p = G := ⟨_, rfl⟩
  rw [hG] at hl1 hl2 HG HLK
  have H1 := Lib.hid hl1
  have H2 := Lib.hid hl2
  have hub : UL ≤ 4096 := by omega
  have hlb : L.length ≤ 4096 := by omega
  clear H hI hs hl1 hl2 hg hlk hul hlen hf hp hUL hG
  go_enter Tryz.func35, Tryz.ntmps35
  go_wp2_with fail
  generalize hW : World.alloc _ _ = W
  have hz : w.heap.size ≤ W.heap.size := by subst hW; go_size
  have hB : Below w.heap.size w W := by subst hW; go_grown
  have pa : W.cell? ⟨w.heap.size, 0, none⟩ = some (.int .u64 (u p.a.hi)) := by subst hW; go_simp <;> rfl
  have pb : W.cell? ⟨w.heap.size, 1, none⟩ = some (.int .u64 (u p.a.lo)) := by subst hW; go_simp <;> rfl
  have pc : W.cell? ⟨w.heap.size, 2, none⟩ = some (.bool p.a.v6) := by subst hW; go_simp <;> rfl
  have pd : W.cell? ⟨w.heap.size, 3, none⟩ = some (.int .i64 p.n) := by subst hW; go_simp <;> rfl
  have pz : w.heap.size < W.heap.size := by subst hW; go_size
  have HW := Lib.hid (HH.out.keep hB)
  obtain ⟨c0, c1, -, -⟩ := HW.out.cells
  have rz := HW.out.lt
  clear hW HH
  have L0 := fun x : Later W.heap.size W => (x.cell rz).trans c0
  have L1 := fun x : Later W.heap.size W => (x.cell rz).trans c1
  have LL : ∀ (x : Later W.heap.size W) (ty : TypeId), (Builtin.len_ #[58] ty #[.map (some m)]).run Tryz.prog x.at = .ok (.int .i64 (UL : Int)) x.at := fun x ty => by rw [← HUL.out]; exact (HW.out.keep x.below).len ty
  refine region_later W.heap.size (by kernel_rfl) (by kernel_rfl) ?_
  repeat (go_big_quiet_step ((go_at_call 54; exact later_same (trie_len (HW.out.keep (Later.below _)).tree))))
  refine wpQuiet_nil ?_
  intro x
  have hx := x.below
  generalize x.at = V at hx ⊢
  clear x L0 L1 LL c0 c1
  have HV := Lib.hid (HW.out.keep hx)
  have vz := hx.size
  have bV := hB.trans (hx.mono hz)
  replace pa := (hx.cell pz).trans pa
  replace pb := (hx.cell pz).trans pb
  replace pc := (hx.cell pz).trans pc
  replace pd := (hx.cell pz).trans pd
  have pz' : w.heap.size < V.heap.size := by omega
  clear hx pz hB HW rz hz
  obtain ⟨W, rfl⟩ : ∃ W, W = V := ⟨_, rfl⟩
  obtain ⟨c0, c1, -, -⟩ := HV.out.cells
  have rz := HV.out.lt
  have L0 := fun x : Later W.heap.size W => (x.cell rz).trans c0
  have La := fun x : Later W.heap.size W => (x.cell pz').trans pa
  have Lb := fun x : Later W.heap.size W => (x.cell pz').trans pb
  have Lc := fun x : Later W.heap.size W => (x.cell pz').trans pc
  have Ld := fun x : Later W.heap.size W => (x.cell pz').trans pd
  have cg : ∀ x : Later W.heap.size W, Calls Tryz.prog 36 #[.pointer (some ⟨t, 0, none⟩), .agg #[.int .u64 (u p.a.hi), .int .u64 (u p.a.lo), .bool p.a.v6, .int .i64 p.n]] x.at fun e w' => e = .returned (.tuple #[.int .i64 (G.getD 0), .bool G.isSome]) ∧ Below x.at.heap.size x.at w' := fun x => by
    have := trie_get (HV.out.keep x.below).tree p
    rw [HG.out] at this
    exact this
  have CG := Lib.hid cg
  clear cg
  go_wp2_with fail
  refine region_later W.heap.size (by kernel_rfl) (by kernel_rfl) ?_
  repeat (go_big_quiet_step ((go_at_call 36; exact later_of (Nat.le_refl _) (CG.out _))))
  refine wpQuiet_nil ?_
  intro x
  have hx := x.below
  generalize x.at = V at hx ⊢
  clear x L0 La Lb Lc Ld c0 c1 pa pb pc pd pz' CG
  have HR := Lib.hid (HV.out.keep hx)
  have bR := bV.trans (hx.mono bV.size)
  obtain ⟨c0, c1, c2, c3⟩ := HR.out.cells
  have lk := HR.out.look hk
  obtain ⟨K, hK⟩ : ∃ K, (hopsL L).count k = K := ⟨_, rfl⟩
  rw [hK] at lk H2
  clear hx HV vz bV rz hK HG HUL
  cases G with
  | none =>
    have e1 := H1.out
    have e2 := H2.out
    simp only [Option.isSome_none, Bool.false_eq_true, if_false] at e1 e2
    clear H1 H2 HLK
    go_wp2
    all_goals
      go_ret
      refine ⟨ret_bool ?_, bR⟩
      rw [HF.out, Bool.eq_iff_iff]
      clear lk HR c0 c1 c2 c3 bR HF
      simp only [Bool.and_eq_true, decide_eq_true_eq, beq_iff_eq, beq_eq_false_iff_ne, ne_eq, Bool.false_eq_true, false_iff] at *
      split at e2 <;> omega
  | some o =>
    have ho := HLK.out o rfl
    have lo := HR.out.look ho
    obtain ⟨O, hO⟩ : ∃ O, (hopsL L).count o = O := ⟨_, rfl⟩
    have e1 := H1.out
    have e2 := H2.out
    simp only [Option.isSome_some, if_true] at e1 e2
    rw [hO] at lo e2
    clear H1 H2 HLK hO
    go_wp2
    all_goals
      go_ret
      refine ⟨ret_bool ?_, bR⟩
      rw [HF.out, Bool.eq_iff_iff]
      clear lk lo HR c0 c1 c2 c3 bR HF
      simp only [Bool.and_eq_true, decide_eq_true_eq, beq_iff_eq, bne_iff_ne, beq_eq_false_iff_ne, bne_eq_false_iff_eq, ne_eq, Bool.false_eq_true, false_iff] at *
      split at e2 <;> split at e2 <;> omega
end

end Go.Proofs.YtcbfppangiopeaaGreat

namespace Go.Proofs.YtcbfppangiopeaaGreat
open Go.RowKit Go.Maps
set_option maxRecDepth 100000

def clampN (n : Int) : Int := min (max n 0) 4096
def clampH (h : Int) : Int := min (max h 0) 65536
def RNewPost (n h : Int) (w : World) (e : Ending) (w' : World) : Prop := ∃ r S, e = .returned (.pointer (some ⟨r, 0, none⟩)) ∧ RibS w' r S (clampN n) (clampH h) [] 2 ∧ Below w.heap.size w w' ∧ ∀ b, S b → w.heap.size ≤ b
theorem rnew_end {w w1 : World} {t : Nat} {S1 : Nat → Prop} {n h a b : Int} (hT : Trie w1 t S1 [] 2) (hb : Below w.heap.size w w1) (hS : ∀ b, S1 b → w.heap.size ≤ b) (ha : a = clampN n) (hh : b = clampH h) :
    RNewPost n h w (.returned (.pointer (some ⟨w1.heap.size + 1, 0, none⟩))) ((w1.alloc (.map #[] 0)).alloc (.cells #[.pointer (some ⟨t, 0, none⟩), .map (some w1.heap.size), .int .i64 a, .int .i64 b] 60)) := by
  subst ha hh
  have h1 := hT.lt
  have e1 : (w1.alloc (.map #[] 0)).heap.size = w1.heap.size + 1 := by simp
  refine ⟨w1.heap.size + 1, ribS (w1.heap.size + 1) w1.heap.size S1, rfl, ⟨t, w1.heap.size, S1, .map [], ⟨hp_new e1.symm, ?_, ?_, uses_nil, ?_, ?_, by omega⟩, ⟨by simp, ?_, ?_, ?_, ?_⟩, rfl⟩, hb.trans (Below.mono (by go_grown) hb.size), ?_⟩
  · exact hT.keep (by go_grown)
  · exact (World.ownsMap_made w1 Tryz.prog 3 (plainElem (H := Unit) Tryz.prog 3)).alloc _
  · exact fun e => by have := h1 _ e; omega
  · exact fun e => by have := h1 _ e; omega
  · unfold clampN; omega
  · unfold clampH; omega
  · simp only [List.length_nil]; unfold clampN; omega
  · show ((0 : Nat) : Int) ≤ _
    unfold clampH; omega
  · rintro b (rfl | rfl | hb')
    · have := hb.size; omega
    · exact hb.size
    · exact hS b hb'
set_option maxHeartbeats 1000000 in
theorem rib_new (n h : Int) (w : World) : Calls Tryz.prog 5 #[.int .i64 n, .int .i64 h] w (RNewPost n h w) := by
  have hmm := @run_makeMap Tryz.prog
  go_enter Tryz.func5, Tryz.ntmps5
  go_wp2_with fail
  refine (trie_new _).mono ?_
  rintro e w1 ⟨t, S1, rfl, hT1, hb1, hS1⟩
  have HT := Lib.hid hT1
  have HS := Lib.hid hS1
  have HB := Lib.hid hb1
  clear hT1 hS1 hb1
  go_wp2
  all_goals
    go_ret
    refine rnew_end HT.out HB.out HS.out ?_ ?_
    all_goals (first | unfold clampN | unfold clampH)
    all_goals omega

def addE (n h : Int) (L : List Pr) (p : Pf) (k : Int) : Int := if psane p = true then (if 0 ≤ k ∧ k ≤ 65535 then (if fitsB n h L p k = true then 0 else 3) else 4) else 1
def addQ (n h : Int) (L : List Pr) (p : Pf) (k : Int) : List Pr := if addE n h L p k = 0 then putL p k L else L
def addM (n h : Int) (L : List Pr) (p : Pf) (k : Int) (most : Nat) : Nat := if addE n h L p k = 0 then putM p k L most else most
/-- What a call that changes routes leaves. -/
def RibPost (r : Nat) (S : Nat → Prop) (w : World) (n h : Int) (L : List Pr) (most : Nat) (v : Value) (e : Ending) (w' : World) : Prop := e = .returned v ∧ ∃ S', RibS w' r S' n h L most ∧ Frm S w w' ∧ Sub S S' w.heap.size
section
variable {w : World} {r : Nat} {S : Nat → Prop} {n h : Int} {L : List Pr} {most : Nat}
theorem rib_same {w' : World} {v : Value} (H : RibS w r S n h L most) (hb : Below w.heap.size w w') : RibPost r S w n h L most v (.returned v) w' := ⟨rfl, S, H.keep hb, frm_of_below hb, Sub.refl _ _⟩
set_option maxHeartbeats 1000000 in
theorem add_no (H : RibS w r S n h L most) (p : Pf) (k : Int) (he : addE n h L p k ≠ 0) : Calls Tryz.prog 11 #[.pointer (some ⟨r, 0, none⟩), .agg #[.int .u64 (u p.a.hi), .int .u64 (u p.a.lo), .bool p.a.v6, .int .i64 p.n], .int .i64 k] w (RibPost r S w n h L most (.int .i64 (addE n h L p k))) := by
  have HH := Lib.hid H
  clear H
  cases hp : psane p
  · have e1 : addE n h L p k = 1 := by unfold addE; rw [hp]; rfl
    rw [e1]
    have hs' : (!psane p) = true := by simp [hp]
    clear hp e1 he
    go_enter Tryz.func11, Tryz.ntmps11
    go_wp2_with fail
    refine (psane_any p _).mono ?_
    rintro e w2 ⟨rfl, hw2⟩
    have zw2 := hw2.size
    have bw2 := below_of (w := w) (by go_grown) hw2
    try simp at zw2
    obtain ⟨p1a, p1b, p1c, p1g, p1d, p1e, p1f, p1h, p1z⟩ := cells4 (b := w.heap.size) hw2 (by go_size) (by go_simp <;> rfl) (by go_simp <;> rfl) (by go_simp <;> rfl) (by go_simp <;> rfl) (by go_simp <;> rfl) (by go_simp <;> rfl) (by go_simp <;> rfl) (by go_simp <;> rfl)
    clear hw2
    go_wp2
    go_ret
    exact rib_same HH.out bw2
  · have hs' : (!psane p) = false := by simp [hp]
    by_cases hk : 0 ≤ k ∧ k ≤ 65535
    · have e0 : fitsB n h L p k = false := by
        cases hf : fitsB n h L p k
        · rfl
        · exfalso
          apply he
          unfold addE
          rw [if_pos hp, if_pos hk, if_pos hf]
      have e1 : addE n h L p k = 3 := by unfold addE; rw [if_pos hp, if_pos hk, e0]; rfl
      rw [e1]
      have t1 : decide (k < 0) = false := by simp; omega
      have t2 : decide (65535 < k) = false := by simp; omega
      have HP := Lib.hid hp
      have HF := Lib.hid e0
      clear e1 he hp e0
      obtain ⟨t, m, S0, D, HA, hI, rfl⟩ := HH.out
      have HAA := Lib.hid HA
      have HI := Lib.hid hI
      clear HA hI
      go_enter Tryz.func11, Tryz.ntmps11
      go_wp2_with fail
      refine (psane_any p _).mono ?_
      rintro e w2 ⟨rfl, hw2⟩
      have zw2 := hw2.size
      have bw2 := below_of (w := w) (by go_grown) hw2
      try simp at zw2
      obtain ⟨p2a, p2b, p2c, p2g, p2d, p2e, p2f, p2h, p2z⟩ := cells4 (b := w.heap.size) hw2 (by go_size) (by go_simp <;> rfl) (by go_simp <;> rfl) (by go_simp <;> rfl) (by go_simp <;> rfl) (by go_simp <;> rfl) (by go_simp <;> rfl) (by go_simp <;> rfl) (by go_simp <;> rfl)
      clear hw2
      have cf := fits_any (HAA.out.keep bw2) HI.out p HP.out k hk
      rw [HF.out] at cf
      have CF := Lib.hid cf
      clear cf
      go_wp2_with fail
      refine (CF.out).mono ?_
      rintro e w3 ⟨rfl, hw3⟩
      have zw3 := hw3.size
      have bw3 := below_of (w := w) (by go_grown) hw3
      try simp at zw3
      have hw2b := below_of (w := w2) (by go_grown) hw3
      obtain ⟨p3a, p3b, p3c, p3g, p3d, p3e, p3f, p3h, p3z⟩ := cells4 hw2b p2z p2a p2b p2c p2g p2d p2e p2f p2h
      clear p2a p2b p2c p2g p2d p2e p2f p2h p2z hw3 hw2b
      go_wp2
      go_ret
      exact rib_same HH.out bw3
    · have e1 : addE n h L p k = 4 := by unfold addE; rw [if_pos hp, if_neg hk]
      rw [e1]
      have HK := Lib.hid hk
      clear hp e1 he hk
      by_cases h1 : k < 0
      · have t1 : decide (k < 0) = true := by simp; omega
        go_enter Tryz.func11, Tryz.ntmps11
        go_wp2_with fail
        refine (psane_any p _).mono ?_
        rintro e w2 ⟨rfl, hw2⟩
        have zw2 := hw2.size
        have bw2 := below_of (w := w) (by go_grown) hw2
        try simp at zw2
        obtain ⟨p4a, p4b, p4c, p4g, p4d, p4e, p4f, p4h, p4z⟩ := cells4 (b := w.heap.size) hw2 (by go_size) (by go_simp <;> rfl) (by go_simp <;> rfl) (by go_simp <;> rfl) (by go_simp <;> rfl) (by go_simp <;> rfl) (by go_simp <;> rfl) (by go_simp <;> rfl) (by go_simp <;> rfl)
        clear hw2
        go_wp2
        go_ret
        exact rib_same HH.out bw2
      · have t1 : decide (k < 0) = false := by simp; omega
        have t2 : decide (65535 < k) = true := by have := HK.out; simp; omega
        go_enter Tryz.func11, Tryz.ntmps11
        go_wp2_with fail
        refine (psane_any p _).mono ?_
        rintro e w2 ⟨rfl, hw2⟩
        have zw2 := hw2.size
        have bw2 := below_of (w := w) (by go_grown) hw2
        try simp at zw2
        obtain ⟨p5a, p5b, p5c, p5g, p5d, p5e, p5f, p5h, p5z⟩ := cells4 (b := w.heap.size) hw2 (by go_size) (by go_simp <;> rfl) (by go_simp <;> rfl) (by go_simp <;> rfl) (by go_simp <;> rfl) (by go_simp <;> rfl) (by go_simp <;> rfl) (by go_simp <;> rfl) (by go_simp <;> rfl)
        clear hw2
        go_wp2
        go_ret
        exact rib_same HH.out bw2
end

end Go.Proofs.YtcbfppangiopeaaGreat

namespace Go.Proofs.YtcbfppangiopeaaGreat
open Go.RowKit Go.Maps
set_option maxRecDepth 100000

section
variable {w w5 w6 : World} {r t m : Nat} {S0 S' : Nat → Prop} {D : DataW Unit} {n h : Int} {L L' : List Pr} {most M : Nat} {hs : List Int}
theorem ribS_sub (hl : r < w.heap.size) (hm : m < w.heap.size) (g3 : Sub S0 S' w5.heap.size) (hz : w.heap.size ≤ w5.heap.size) : Sub (ribS r m S0) (ribS r m S') w.heap.size := by
  rintro b (rfl | rfl | hb)
  · exact .inl (.inl rfl)
  · exact .inl (.inr (.inl rfl))
  · rcases g3 b hb with e | e
    · exact .inl (.inr (.inr e))
    · exact .inr (by omega)
/-- The tree has changed, and the counts with it. -/
theorem rib_end {v : Value} (H : RibA w5 r t m S0 D n h L most hs) (hl : r < w.heap.size) (hm : m < w.heap.size) (hh : hs.Perm (hopsL L')) (hI : Inv n h L') (hF : Frm (ribS r m S0) w w5)
    (g1 : Trie w6 t S' L' M) (g2 : Frm S0 w5 w6) (g3 : Sub S0 S' w5.heap.size) : RibPost r (ribS r m S0) w n h L' M v (.returned v) w6 := by
  have hz := hF.size
  have k1 : ¬ S' r := fun e => by
    rcases g3 r e with e | e
    · exact H.d1 e
    · omega
  have k2 : ¬ S' m := fun e => by
    rcases g3 m e with e | e
    · exact H.d2 e
    · omega
  refine ⟨rfl, ribS r m S', ⟨t, m, S', D, ⟨(g2.block r (by omega) H.d1).trans H.blk, g1, cnts_frm H.map g2 H.d2, H.uses.perm hh, k1, k2, H.d3⟩, hI, rfl⟩, ?_, ribS_sub hl hm g3 hz⟩
  exact hF.trans g2 (fun b hb => .inl (.inr (.inr hb)))
end
theorem inv_put {n h : Int} {L : List Pr} {p : Pf} {k : Int} (hI : Inv n h L) (hs : Srt L) (hp : psane p = true) (hk : 0 ≤ k ∧ k ≤ 65535) (hf : fitsB n h L p k = true) : Inv n h (putL p k L) := by
  unfold fitsB at hf
  simp only [Bool.and_eq_true, decide_eq_true_eq] at hf
  refine ⟨fun x hx => ?_, hI.n0, hI.h0, hf.1, hf.2⟩
  rcases (mem_put hs hp x).1 hx with rfl | ⟨h1, _⟩
  · exact hk
  · exact hI.hop x h1
theorem nodup_le_int : ∀ {a b : List Int}, a.Nodup → (∀ x ∈ a, x ∈ b) → a.length ≤ b.length := by
  intro a
  induction a with
  | nil => intro b _ _; exact Nat.zero_le _
  | cons x r ih =>
    intro b hd h
    obtain ⟨h1, h2⟩ := List.nodup_cons.1 hd
    have hx := h x List.mem_cons_self
    have := ih (b := b.erase x) h2 (fun y hy => (List.mem_erase_of_ne (show y ≠ x from fun e => h1 (e ▸ hy))).2 (h y (List.mem_cons_of_mem _ hy)))
    have e := List.length_erase_of_mem hx
    have e2 := List.length_pos_of_mem hx
    simp only [List.length_cons]
    omega
theorem unl_sub {a b : List Int} (h : ∀ x, x ∈ a → x ∈ b) : unl a ≤ unl b := by
  have key : ∀ l : List Int, ∃ d : List Int, d.Nodup ∧ (∀ x, x ∈ d ↔ x ∈ l) := by
    intro l
    induction l with
    | nil => exact ⟨[], List.nodup_nil, fun x => Iff.rfl⟩
    | cons y r ih =>
      obtain ⟨d, h1, h2⟩ := ih
      by_cases hy : y ∈ d
      · refine ⟨d, h1, fun x => ?_⟩
        rw [h2 x, List.mem_cons]
        exact ⟨.inr, fun e => e.elim (fun e => e ▸ (h2 y).1 hy) id⟩
      · refine ⟨y :: d, List.nodup_cons.2 ⟨hy, h1⟩, fun x => ?_⟩
        rw [List.mem_cons, List.mem_cons, h2 x]
  obtain ⟨da, a1, a2⟩ := key a
  obtain ⟨db, b1, b2⟩ := key b
  rw [← unl_dist a1 a2, ← unl_dist b1 b2]
  exact nodup_le_int a1 (fun x hx => (b2 x).2 (h x ((a2 x).1 hx)))
theorem inv_del {n h : Int} {L : List Pr} {p : Pf} (hI : Inv n h L) : Inv n h (delQ p L) := by
  unfold delQ
  split
  · refine ⟨fun x hx => hI.hop x ((mem_del x).1 hx).1, hI.n0, hI.h0, ?_, ?_⟩
    · have := List.length_filter_le (fun x : Pr => decide (x.p ≠ p)) L
      have h1 := hI.few
      unfold delL
      omega
    · have h1 := hI.like
      have h2 := unl_sub (a := hopsL (delL p L)) (b := hopsL L) (fun x hx => by
        obtain ⟨y, y1, y2⟩ := mem_hops.1 hx
        exact mem_hops.2 ⟨y, ((mem_del y).1 y1).1, y2⟩)
      omega
  · exact hI

section
variable {w : World} {r : Nat} {S : Nat → Prop} {n h : Int} {L : List Pr} {most : Nat}
set_option maxHeartbeats 2000000 in
theorem add_yes (H : RibS w r S n h L most) (hb : most + 128 ≤ 1000000000) (p : Pf) (k : Int) (he : addE n h L p k = 0) : Calls Tryz.prog 11 #[.pointer (some ⟨r, 0, none⟩), .agg #[.int .u64 (u p.a.hi), .int .u64 (u p.a.lo), .bool p.a.v6, .int .i64 p.n], .int .i64 k] w (fun e w' => RibPost r S w n h (putL p k L) (putM p k L most) (.int .i64 0) e w' ∧ putM p k L most ≤ most + 128) := by
  have hp : psane p = true := by
    cases hp : psane p
    · unfold addE at he
      rw [hp] at he
      cases he
    · rfl
  have hk : 0 ≤ k ∧ k ≤ 65535 := by
    by_cases hk : 0 ≤ k ∧ k ≤ 65535
    · exact hk
    · unfold addE at he
      rw [if_pos hp, if_neg hk] at he
      cases he
  have hf : fitsB n h L p k = true := by
    cases hf : fitsB n h L p k
    · unfold addE at he
      rw [if_pos hp, if_pos hk, hf] at he
      cases he
    · rfl
  obtain ⟨t, m, S0, D, HA, hI, rfl⟩ := H
  have hs := HA.tree.srt
  have hgl : getQ p L = lk L p := by unfold getQ; rw [if_pos hp]
  obtain ⟨G, hG⟩ : ∃ G, lk L p = G := ⟨_, rfl⟩
  rw [hG] at hgl
  have hhp := hops_put (v := k) hs hp
  have hlen : (hopsL L).length ≤ 4096 := by
    unfold hopsL
    rw [List.length_map]
    have := hI.few
    have := hI.n0
    omega
  have hII := inv_put hI hs hp hk hf
  have hs' : (!psane p) = false := by simp [hp]
  have t1 : decide (k < 0) = false := by simp; omega
  have t2 : decide (65535 < k) = false := by simp; omega
  have hrl := HA.lt
  have hml := World.ownsMap.lt HA.map
  have hpq : putQ p k L = putL p k L := by unfold putQ; rw [if_pos hp]
  have hpe : putE p = 0 := by unfold putE; rw [if_pos hp]
  have HAA := Lib.hid HA
  have HI := Lib.hid hI
  have HII := Lib.hid hII
  have HP := Lib.hid hp
  have HF := Lib.hid hf
  have HG := Lib.hid hgl
  have HGL := Lib.hid hG
  have HS := Lib.hid hs
  have HHP := Lib.hid hhp
  have HLN := Lib.hid hlen
  have HPQ := Lib.hid hpq
  have HPE := Lib.hid hpe
  clear HA hI hII hp hf hgl hG hs hhp hlen he hpq hpe
  go_enter Tryz.func11, Tryz.ntmps11
  go_wp2_with fail
  refine (psane_any p _).mono ?_
  rintro e w2 ⟨rfl, hw2⟩
  have zw2 := hw2.size
  have bw2 := below_of (w := w) (by go_grown) hw2
  try simp at zw2
  obtain ⟨p1a, p1b, p1c, p1g, p1d, p1e, p1f, p1h, p1z⟩ := cells4 (b := w.heap.size) hw2 (by go_size) (by go_simp <;> rfl) (by go_simp <;> rfl) (by go_simp <;> rfl) (by go_simp <;> rfl) (by go_simp <;> rfl) (by go_simp <;> rfl) (by go_simp <;> rfl) (by go_simp <;> rfl)
  clear hw2
  have cf := fits_any (HAA.out.keep bw2) HI.out p HP.out k hk
  rw [HF.out] at cf
  have CF := Lib.hid cf
  clear cf
  go_wp2_with fail
  refine (CF.out).mono ?_
  rintro e w3 ⟨rfl, hw3⟩
  have zw3 := hw3.size
  have bw3 := below_of (w := w) (by go_grown) hw3
  try simp at zw3
  have hw2b := below_of (w := w2) (by go_grown) hw3
  obtain ⟨p2a, p2b, p2c, p2g, p2d, p2e, p2f, p2h, p2z⟩ := cells4 hw2b p1z p1a p1b p1c p1g p1d p1e p1f p1h
  clear p1a p1b p1c p1g p1d p1e p1f p1h p1z hw3 hw2b
  have HPV : Hid (PBox w3 w.heap.size p) := Lib.hid ⟨p2a, p2b, p2c, p2g, p2d, p2e, p2f, p2h, p2z⟩
  have HV := Lib.hid (HAA.out.keep bw3)
  have bV := bw3
  clear p2a p2b p2c p2g p2d p2e p2f p2h p2z
  clear bw2 bw3 zw2 zw3 CF HAA
  have hld : (hopsL (delL p L)).length ≤ 4096 := by
    have h1 := HLN.out
    have h2 := List.length_filter_le (fun x : Pr => decide (x.p ≠ p)) L
    unfold hopsL at h1 ⊢
    rw [List.length_map] at h1 ⊢
    unfold delL
    omega
  have HLD := Lib.hid hld
  clear hld
  obtain ⟨W, rfl⟩ : ∃ W, W = w3 := ⟨_, rfl⟩
  have rz := HV.out.lt
  obtain ⟨c0, -, -, -⟩ := HV.out.cells
  obtain ⟨pa, pb, pc, pd, -, -, -, -, pz⟩ := id HPV.out
  have L0 := fun x : Later W.heap.size W => (x.cell rz).trans c0
  have La := fun x : Later W.heap.size W => (x.cell pz).trans pa
  have Lb := fun x : Later W.heap.size W => (x.cell pz).trans pb
  have Lc := fun x : Later W.heap.size W => (x.cell pz).trans pc
  have Ld := fun x : Later W.heap.size W => (x.cell pz).trans pd
  have cg : ∀ x : Later W.heap.size W, Calls Tryz.prog 36 #[.pointer (some ⟨t, 0, none⟩), .agg #[.int .u64 (u p.a.hi), .int .u64 (u p.a.lo), .bool p.a.v6, .int .i64 p.n]] x.at fun e w' => e = .returned (.tuple #[.int .i64 (G.getD 0), .bool G.isSome]) ∧ Below x.at.heap.size x.at w' := fun x => by
    have := trie_get (HV.out.keep x.below).tree p
    rw [HG.out] at this
    exact this
  have CG := Lib.hid cg
  clear cg
  go_wp2_with fail
  refine region_later W.heap.size (by kernel_rfl) (by kernel_rfl) ?_
  repeat (go_big_quiet_step (first | (go_at_call 36; exact later_of (Nat.le_refl _) (CG.out _)) | (go_at_call 41; exact later_same (routes_any (HV.out.keep (Later.below _))))))
  refine wpQuiet_nil ?_
  intro x
  have hx := x.below
  generalize x.at = V at hx ⊢
  clear x L0 La Lb Lc Ld c0 pa pb pc pd CG
  have HR := Lib.hid (HV.out.keep hx)
  have HPR := Lib.hid (HPV.out.keep hx)
  have bR := bV.trans (hx.mono bV.size)
  clear hx HV HPV rz pz
  cases G with
  | none =>
    have hRn : RibA V r t m S0 D n h L most (hopsL (delL p L)) := by rw [del_none HGL.out]; exact HR.out
    have HRN := Lib.hid hRn
    have hFn : Frm (ribS r m S0) w V := frm_of_below bR
    clear hRn HR
    go_upto_region 10 with fail
    have HR6 : Hid (RibA V r t m S0 D n h L most (hopsL (delL p L))) := HRN
    obtain ⟨c0, c1, -, -⟩ := HR6.out.cells
    have lk1 := HR6.out.look hk
    have hown := HR6.out.map
    have hcl := count_le (hopsL (delL p L)) k
    have hle : (hopsL (delL p L)).length ≤ 4096 := HLD.out
    have hsz : Maps.size D ≤ 4096 := by
      rw [HR6.out.uses.size]
      have := unl_le (hopsL (delL p L))
      omega
    obtain ⟨c, hc⟩ : ∃ c, (hopsL (delL p L)).count k = c := ⟨_, rfl⟩
    have hus := HR6.out.uses.use k
    rw [hc] at lk1 hcl hus
    have hc9 : (c : Int) + 1 ≤ 5000 := by omega
    have hwf : (Lit.int .i64 ((c : Int) + 1)).wf = true := WalkArith.wf_i64 (by omega)
    have HUS := Lib.hid hus
    have HWF := Lib.hid hwf
    have HO := Lib.hid hown
    have HK := Lib.hid (keyOf_int_mk Tryz.underlying3 (wf_hop hk))
    clear hus hwf hown hc hcl hle
    go_wp2_with (first
      | (at_mapUpdate; refine wpList_mapUpdate_in _ rfl _ _ _ 58 rfl 3 3 lawI Tryz.underlying58 (plainElem (H := Unit) Tryz.prog 3) m _ D rfl HO.out (by unfold maxLen; omega) _ _ _ rfl rfl HK.out _ [] (plainElem_int Tryz.underlying3 HWF.out) ?_; intro w6 hown1 hturn1; have HO1 := Lib.hid hown1; have HT1 := Lib.hid hturn1; clear hown1 hturn1)
      | fail)
    have HR7 := Lib.hid (HR6.out.turned HT1.out HO1.out HUS.out)
    have HP7 := Lib.hid ((HPR).out.frm (frm_turned HT1.out) (fun e => by omega))
    have hF7 : Frm (ribS r m S0) w w6 := (hFn).trans (frm_turned HT1.out) (fun b hb => .inl (.inr (.inl hb)))
    clear HO1 HT1 HUS HO HR6 c0 c1 lk1
    obtain ⟨W, rfl⟩ : ∃ W, W = w6 := ⟨_, rfl⟩
    have rz := HR7.out.lt
    obtain ⟨c0, -, -, -⟩ := HR7.out.cells
    obtain ⟨pa, pb, pc, pd, -, -, -, -, pz⟩ := id HP7.out
    have L0 := fun x : Later W.heap.size W => (x.cell rz).trans c0
    have La := fun x : Later W.heap.size W => (x.cell pz).trans pa
    have Lb := fun x : Later W.heap.size W => (x.cell pz).trans pb
    have Lc := fun x : Later W.heap.size W => (x.cell pz).trans pc
    have Ld := fun x : Later W.heap.size W => (x.cell pz).trans pd
    go_frame
    refine region_tail 6 W.heap.size (by kernel_rfl) (by kernel_rfl) ?_
    simp only [List.take_succ_cons, List.take_zero, List.drop_succ_cons, List.drop_zero]
    repeat (go_big_quiet_step (fail))
    refine wpQuiet_nil ?_
    intro x
    have hx := x.below
    generalize x.at = V8 at hx ⊢
    clear x L0 La Lb Lc Ld c0 pa pb pc pd
    have HR8 := Lib.hid (HR7.out.keep hx)
    have hF8 := hF7.then hx
    clear hx HR7 HP7 rz pz
    go_wp2_with fail
    refine (trie_put HR8.out.tree hb p k).mono ?_
    rw [HPQ.out, HPE.out]
    rintro e w9 ⟨⟨rfl, S9, g1, g2, g3⟩, g4⟩
    have G1 := Lib.hid g1
    have G2 := Lib.hid g2
    have G3 := Lib.hid g3
    clear g1 g2 g3
    go_wp2
    go_ret
    exact ⟨rib_end HR8.out hrl hml HHP.out.symm HII.out hF8 G1.out G2.out G3.out, g4⟩
  | some o =>
    have ho : 0 ≤ o ∧ o ≤ 65535 := HI.out.hop _ (lk_mem HGL.out)
    have hpm := hops_del HS.out HGL.out
    have hRo : RibA V r t m S0 D n h L most (o :: hopsL (delL p L)) := { HR.out with uses := HR.out.uses.perm hpm }
    have cr := release_any hRo ho (by have := HLD.out; omega)
    have CR := Lib.hid cr
    clear hRo cr hpm
    go_wp2_with fail
    refine CR.out.mono ?_
    rintro e w5 ⟨rfl, D', hR5, hf5⟩
    have HPB := Lib.hid (HPR.out.frm hf5 (fun e => by omega))
    have hF5 : Frm (ribS r m S0) w w5 := (frm_of_below bR).trans hf5 (fun b hb => .inl (.inr (.inl hb)))
    have HR5 := Lib.hid hR5
    clear hR5 hf5 CR HPR HR
    have HR6 : Hid (RibA w5 r t m S0 D' n h L most (hopsL (delL p L))) := HR5
    obtain ⟨c0, c1, -, -⟩ := HR6.out.cells
    have lk1 := HR6.out.look hk
    have hown := HR6.out.map
    have hcl := count_le (hopsL (delL p L)) k
    have hle : (hopsL (delL p L)).length ≤ 4096 := HLD.out
    have hsz : Maps.size D' ≤ 4096 := by
      rw [HR6.out.uses.size]
      have := unl_le (hopsL (delL p L))
      omega
    obtain ⟨c, hc⟩ : ∃ c, (hopsL (delL p L)).count k = c := ⟨_, rfl⟩
    have hus := HR6.out.uses.use k
    rw [hc] at lk1 hcl hus
    have hc9 : (c : Int) + 1 ≤ 5000 := by omega
    have hwf : (Lit.int .i64 ((c : Int) + 1)).wf = true := WalkArith.wf_i64 (by omega)
    have HUS := Lib.hid hus
    have HWF := Lib.hid hwf
    have HO := Lib.hid hown
    have HK := Lib.hid (keyOf_int_mk Tryz.underlying3 (wf_hop hk))
    clear hus hwf hown hc hcl hle
    go_wp2_with (first
      | (at_mapUpdate; refine wpList_mapUpdate_in _ rfl _ _ _ 58 rfl 3 3 lawI Tryz.underlying58 (plainElem (H := Unit) Tryz.prog 3) m _ D' rfl HO.out (by unfold maxLen; omega) _ _ _ rfl rfl HK.out _ [] (plainElem_int Tryz.underlying3 HWF.out) ?_; intro w6 hown1 hturn1; have HO1 := Lib.hid hown1; have HT1 := Lib.hid hturn1; clear hown1 hturn1)
      | fail)
    have HR7 := Lib.hid (HR6.out.turned HT1.out HO1.out HUS.out)
    have HP7 := Lib.hid ((HPB).out.frm (frm_turned HT1.out) (fun e => by omega))
    have hF7 : Frm (ribS r m S0) w w6 := (hF5).trans (frm_turned HT1.out) (fun b hb => .inl (.inr (.inl hb)))
    clear HO1 HT1 HUS HO HR6 c0 c1 lk1
    obtain ⟨W, rfl⟩ : ∃ W, W = w6 := ⟨_, rfl⟩
    have rz := HR7.out.lt
    obtain ⟨c0, -, -, -⟩ := HR7.out.cells
    obtain ⟨pa, pb, pc, pd, -, -, -, -, pz⟩ := id HP7.out
    have L0 := fun x : Later W.heap.size W => (x.cell rz).trans c0
    have La := fun x : Later W.heap.size W => (x.cell pz).trans pa
    have Lb := fun x : Later W.heap.size W => (x.cell pz).trans pb
    have Lc := fun x : Later W.heap.size W => (x.cell pz).trans pc
    have Ld := fun x : Later W.heap.size W => (x.cell pz).trans pd
    go_frame
    refine region_tail 6 W.heap.size (by kernel_rfl) (by kernel_rfl) ?_
    simp only [List.take_succ_cons, List.take_zero, List.drop_succ_cons, List.drop_zero]
    repeat (go_big_quiet_step (fail))
    refine wpQuiet_nil ?_
    intro x
    have hx := x.below
    generalize x.at = V8 at hx ⊢
    clear x L0 La Lb Lc Ld c0 pa pb pc pd
    have HR8 := Lib.hid (HR7.out.keep hx)
    have hF8 := hF7.then hx
    clear hx HR7 HP7 rz pz
    go_wp2_with fail
    refine (trie_put HR8.out.tree hb p k).mono ?_
    rw [HPQ.out, HPE.out]
    rintro e w9 ⟨⟨rfl, S9, g1, g2, g3⟩, g4⟩
    have G1 := Lib.hid g1
    have G2 := Lib.hid g2
    have G3 := Lib.hid g3
    clear g1 g2 g3
    go_wp2
    go_ret
    exact ⟨rib_end HR8.out hrl hml HHP.out.symm HII.out hF8 G1.out G2.out G3.out, g4⟩
end

end Go.Proofs.YtcbfppangiopeaaGreat

namespace Go.Proofs.YtcbfppangiopeaaGreat
open Go.RowKit Go.Maps
set_option maxRecDepth 100000

section
variable {w : World} {r : Nat} {S : Nat → Prop} {n h : Int} {L : List Pr} {most : Nat}
theorem rib_add (H : RibS w r S n h L most) (hb : most + 128 ≤ 1000000000) (p : Pf) (k : Int) : Calls Tryz.prog 11 #[.pointer (some ⟨r, 0, none⟩), .agg #[.int .u64 (u p.a.hi), .int .u64 (u p.a.lo), .bool p.a.v6, .int .i64 p.n], .int .i64 k] w (fun e w' => RibPost r S w n h (addQ n h L p k) (addM n h L p k most) (.int .i64 (addE n h L p k)) e w' ∧ addM n h L p k most ≤ most + 128) := by
  by_cases he : addE n h L p k = 0
  · have := add_yes H hb p k he
    unfold addQ addM
    rw [if_pos he, if_pos he, he]
    exact this
  · have := add_no H p k he
    unfold addQ addM
    rw [if_neg he, if_neg he]
    exact this.mono fun e w' hh => ⟨hh, Nat.le_add_right _ _⟩

set_option maxHeartbeats 2000000 in
theorem rib_withdraw (H : RibS w r S n h L most) (hb : most + 128 ≤ 1000000000) (p : Pf) : Calls Tryz.prog 17 #[.pointer (some ⟨r, 0, none⟩), .agg #[.int .u64 (u p.a.hi), .int .u64 (u p.a.lo), .bool p.a.v6, .int .i64 p.n]] w (RibPost r S w n h (delQ p L) most (.int .i64 (delE p L))) := by
  obtain ⟨t, m, S0, D, HA, hI, rfl⟩ := H
  have hs := HA.tree.srt
  obtain ⟨G, hG⟩ : ∃ G, getQ p L = G := ⟨_, rfl⟩
  have hrl := HA.lt
  have hml := World.ownsMap.lt HA.map
  have hlen : (hopsL L).length ≤ 4096 := by
    unfold hopsL
    rw [List.length_map]
    have := hI.few
    have := hI.n0
    omega
  have HAA := Lib.hid HA
  have HI := Lib.hid hI
  have HG := Lib.hid hG
  have HS := Lib.hid hs
  have HLN := Lib.hid hlen
  clear HA hI hG hs hlen
  go_enter Tryz.func17, Tryz.ntmps17
  go_wp2_with fail
  generalize hW : World.alloc _ _ = W
  have hz : w.heap.size ≤ W.heap.size := by subst hW; go_size
  have hB : Below w.heap.size w W := by subst hW; go_grown
  have hpb : PBox W w.heap.size p := by subst hW; exact ⟨by go_simp <;> rfl, by go_simp <;> rfl, by go_simp <;> rfl, by go_simp <;> rfl, by go_simp <;> rfl, by go_simp <;> rfl, by go_simp <;> rfl, by go_simp <;> rfl, by go_size⟩
  have HPV := Lib.hid hpb
  have HV := Lib.hid (HAA.out.keep hB)
  have bV := hB
  clear hW hB hz hpb HAA
  have rz := HV.out.lt
  obtain ⟨c0, -, -, -⟩ := HV.out.cells
  obtain ⟨pa, pb, pc, pd, -, -, -, -, pz⟩ := id HPV.out
  have L0 := fun x : Later W.heap.size W => (x.cell rz).trans c0
  have La := fun x : Later W.heap.size W => (x.cell pz).trans pa
  have Lb := fun x : Later W.heap.size W => (x.cell pz).trans pb
  have Lc := fun x : Later W.heap.size W => (x.cell pz).trans pc
  have Ld := fun x : Later W.heap.size W => (x.cell pz).trans pd
  have cg : ∀ x : Later W.heap.size W, Calls Tryz.prog 36 #[.pointer (some ⟨t, 0, none⟩), .agg #[.int .u64 (u p.a.hi), .int .u64 (u p.a.lo), .bool p.a.v6, .int .i64 p.n]] x.at fun e w' => e = .returned (.tuple #[.int .i64 (G.getD 0), .bool G.isSome]) ∧ Below x.at.heap.size x.at w' := fun x => by
    have := trie_get (HV.out.keep x.below).tree p
    rw [HG.out] at this
    exact this
  have CG := Lib.hid cg
  clear cg
  go_wp2_with fail
  refine region_later W.heap.size (by kernel_rfl) (by kernel_rfl) ?_
  repeat (go_big_quiet_step (first | (go_at_call 36; exact later_of (Nat.le_refl _) (CG.out _)) | (go_at_call 41; exact later_same (routes_any (HV.out.keep (Later.below _))))))
  refine wpQuiet_nil ?_
  intro x
  have hx := x.below
  generalize x.at = V at hx ⊢
  clear x L0 La Lb Lc Ld c0 pa pb pc pd CG
  have HR := Lib.hid (HV.out.keep hx)
  have HPR := Lib.hid (HPV.out.keep hx)
  have bR := bV.trans (hx.mono bV.size)
  clear hx HV HPV rz pz
  cases G with
  | none =>
    have hd : delQ p L = L := by
      have h1 := HG.out
      unfold getQ at h1
      unfold delQ
      by_cases hp : psane p = true
      · rw [if_pos hp] at h1 ⊢
        exact del_none h1
      · rw [if_neg hp]
    have hRn : RibA V r t m S0 D n h L most (hopsL (delQ p L)) := by rw [hd]; exact HR.out
    have HRN := Lib.hid hRn
    have hFn : Frm (ribS r m S0) w V := frm_of_below bR
    clear hRn HR hd
    go_upto_region 4 with fail
    obtain ⟨W, rfl⟩ : ∃ W, W = V := ⟨_, rfl⟩
    obtain ⟨pa, pb, pc, pd, -, -, -, -, pz⟩ := id (HPR).out
    have La := fun x : Later W.heap.size W => (x.cell pz).trans pa
    have Lb := fun x : Later W.heap.size W => (x.cell pz).trans pb
    have Lc := fun x : Later W.heap.size W => (x.cell pz).trans pc
    have Ld := fun x : Later W.heap.size W => (x.cell pz).trans pd
    try go_frame
    refine region_tail 3 W.heap.size (by kernel_rfl) (by kernel_rfl) ?_
    simp only [List.take_succ_cons, List.take_zero, List.drop_succ_cons, List.drop_zero]
    repeat (go_big_quiet_step ((go_at_call 41; exact later_same (routes_any ((HRN).out.keep (Later.below _))))))
    refine wpQuiet_nil ?_
    intro x
    have hx := x.below
    generalize x.at = V8 at hx ⊢
    clear x La Lb Lc Ld pa pb pc pd
    have HR8 := Lib.hid ((HRN).out.keep hx)
    have hF8 := (hFn).then hx
    clear hx pz
    go_wp2_with fail
    refine (trie_del HR8.out.tree hb p).mono ?_
    rintro e w9 ⟨rfl, S9, g1, g2, g3⟩
    have G1 := Lib.hid g1
    have G2 := Lib.hid g2
    have G3 := Lib.hid g3
    clear g1 g2 g3
    go_wp2
    go_ret
    exact rib_end HR8.out hrl hml (List.Perm.refl _) (inv_del HI.out) hF8 G1.out G2.out G3.out
  | some o =>
    have hp : psane p = true := by
      cases hp : psane p
      · have h1 := HG.out
        unfold getQ at h1
        rw [hp] at h1
        cases h1
      · rfl
    have hl : lk L p = some o := by
      have h1 := HG.out
      unfold getQ at h1
      rw [if_pos hp] at h1
      exact h1
    have hd : delQ p L = delL p L := by unfold delQ; rw [if_pos hp]
    have ho : 0 ≤ o ∧ o ≤ 65535 := HI.out.hop _ (lk_mem hl)
    have hpm := hops_del HS.out hl
    rw [← hd] at hpm
    have hRo : RibA V r t m S0 D n h L most (o :: hopsL (delQ p L)) := { HR.out with uses := HR.out.uses.perm hpm }
    have cr := release_any hRo ho (by have h1 := hpm.length_eq; have h2 := HLN.out; simp only [List.length_cons] at h1; omega)
    have CR := Lib.hid cr
    clear hRo cr hpm hd hl hp
    go_wp2_with fail
    refine CR.out.mono ?_
    rintro e w5 ⟨rfl, D', hR5, hf5⟩
    have HPB := Lib.hid (HPR.out.frm hf5 (fun e => by omega))
    have hF5 : Frm (ribS r m S0) w w5 := (frm_of_below bR).trans hf5 (fun b hb => .inl (.inr (.inl hb)))
    have HR5 := Lib.hid hR5
    clear hR5 hf5 CR HPR HR
    go_upto_region 4 with fail
    obtain ⟨W, rfl⟩ : ∃ W, W = w5 := ⟨_, rfl⟩
    obtain ⟨pa, pb, pc, pd, -, -, -, -, pz⟩ := id (HPB).out
    have La := fun x : Later W.heap.size W => (x.cell pz).trans pa
    have Lb := fun x : Later W.heap.size W => (x.cell pz).trans pb
    have Lc := fun x : Later W.heap.size W => (x.cell pz).trans pc
    have Ld := fun x : Later W.heap.size W => (x.cell pz).trans pd
    try go_frame
    refine region_tail 3 W.heap.size (by kernel_rfl) (by kernel_rfl) ?_
    simp only [List.take_succ_cons, List.take_zero, List.drop_succ_cons, List.drop_zero]
    repeat (go_big_quiet_step ((go_at_call 41; exact later_same (routes_any ((HR5).out.keep (Later.below _))))))
    refine wpQuiet_nil ?_
    intro x
    have hx := x.below
    generalize x.at = V8 at hx ⊢
    clear x La Lb Lc Ld pa pb pc pd
    have HR8 := Lib.hid ((HR5).out.keep hx)
    have hF8 := (hF5).then hx
    clear hx pz
    go_wp2_with fail
    refine (trie_del HR8.out.tree hb p).mono ?_
    rintro e w9 ⟨rfl, S9, g1, g2, g3⟩
    have G1 := Lib.hid g1
    have G2 := Lib.hid g2
    have G3 := Lib.hid g3
    clear g1 g2 g3
    go_wp2
    go_ret
    exact rib_end HR8.out hrl hml (List.Perm.refl _) (inv_del HI.out) hF8 G1.out G2.out G3.out
end

end Go.Proofs.YtcbfppangiopeaaGreat

namespace Go.Proofs.YtcbfppangiopeaaGreat
open Go.RowKit
set_option maxRecDepth 100000

/-- A struct's type of a pair's five cells, and that of its slices. -/
structure Five (E SL : TypeId) : Prop where
  info : (Tryz.prog.info? E).map (fun i => (i.zero, i.size, i.bytes)) = some (some (.agg #[.int .u64 0, .int .u64 0, .bool false, .int .i64 0, .int .i64 0]), 5, 40)
  sl : Tryz.prog.underlying SL = some (.slice E)
theorem five_pair : Five 90 95 := ⟨by kernel_rfl, Tryz.underlying95⟩
theorem five_ref : Five 104 31 := ⟨by kernel_rfl, Tryz.underlying31⟩
theorem five_route : Five 51 54 := ⟨by kernel_rfl, Tryz.underlying54⟩
theorem row_cell {E : TypeId} {w : World} {base n : Nat} {v : Value} {l : List Pr} (h : w.ownsRow base E 5 v n (prv l)) (hn : n = l.length) {k : Nat} (hk : k < l.length) : ∃ g c, v = .slice (some ⟨g, 0, none⟩) n c ∧ base ≤ g ∧ g < w.heap.size ∧ ∀ j, j < 5 → w.cell? ⟨g, k * 5 + j, none⟩ = (pr5 l[k])[j]? := by
  obtain ⟨g, cap, rfl, hb, hlt⟩ := h.form (by omega)
  refine ⟨g, cap, rfl, hb, hlt, fun j hj => ?_⟩
  rw [h.cellAt (k * 5 + j) (by omega), prv_at l k hk j hj]
/-- Rows laid behind rows. -/
theorem fives_append {E SL : TypeId} (F : Five E SL) (W : World) (base base' : Nat) (v v2 : Value) (a b : List Pr) (ty : TypeId) (hown : W.ownsRow base E 5 v a.length (prv a)) (h2 : W.ownsRow base' E 5 v2 b.length (prv b)) (hb : a.length + b.length ≤ 1000000000) (hbase : base ≤ W.heap.size) :
    ∃ v' w', (Builtin.append_ #[SL, SL] ty #[v, v2]).run Tryz.prog W = .ok v' w' ∧ w'.ownsRow base E 5 v' (a ++ b).length (prv (a ++ b)) ∧ W.grownBy w' v.ownBlock := by
  obtain ⟨i0, hi0, hz0, hz1, hz2⟩ := info_parts F.info
  rcases h2.2 with ⟨rfl, hn⟩ | ⟨g, cap, cur, rfl, _, hg, hnc, hm, hs, ht⟩
  · have e : b = [] := List.eq_nil_of_length_eq_zero hn
    subst e
    refine ⟨v, W, ?_, by simpa using hown, World.grownBy.refl W _⟩
    rcases hown.2 with ⟨rfl, h0⟩ | ⟨g, cap, cur, rfl, _, _, hnc, _⟩
    · simp [Builtin.append_, run_underlying F.sl, sizeOf, typeInfo, hi0, Builtin.lenOf, Builtin.firstCells]
    · simp [Builtin.append_, run_underlying F.sl, sizeOf, typeInfo, hi0, Builtin.lenOf, Builtin.firstCells, hnc, storeCells]
  · obtain ⟨v', w', e1, e2, e3, _, _⟩ := run_append_own_at (P := Tryz.prog) W base SL ty E i0 _ 5 40 F.sl hi0 hz0 hz1 hz2 rfl (by omega) v a.length _ hown ⟨g, 0, none⟩ b.length cap (prv b) (prv_len b) (h2.cells (g := g) rfl) (by
      intro u hu
      unfold prv at hu
      obtain ⟨x, _, hx⟩ := List.mem_flatMap.1 hu
      exact pr5_cell x u hx) (by simp only [maxLen]; omega) (by omega) hbase
    exact ⟨v', w', e1, by rw [prv_append, List.length_append]; exact e2, e3⟩
section
variable {ops : Array Oper} {o : Oper} {a : Act} {w : World} {Q : Exit → Act → World → Prop}
theorem wpList_fives {E SL : TypeId} (F : Five E SL) {rest : List Oper} (hgd : o.guard = none) (s x : Operand) (ho : o.op = .call { callee := .builtin .append, args := #[s, x], argTypes := #[SL, SL] }) (base base' : Nat) (v v2 : Value) (l m : List Pr) (hs : a.eval s = v) (hx : a.eval x = v2) (hown : w.ownsRow base E 5 v l.length (prv l)) (h2 : w.ownsRow base' E 5 v2 m.length (prv m))
    (hb : l.length + m.length ≤ 1000000000) (hbase : base ≤ w.heap.size)
    (h : ∀ v' w', w'.ownsRow base E 5 v' (l ++ m).length (prv (l ++ m)) → Below base w w' → wpList Tryz.prog ops Q rest (a.put o.dst v') w') : wpList Tryz.prog ops Q (o :: rest) a w := by
  refine wpList_plain hgd fun _ hK => ?_
  obtain ⟨v', w', e1, e2, e3⟩ := fives_append F w base base' v v2 l m o.type hown h2 hb hbase
  unfold Oper.wp execOp
  simp only [ho, resolve, invoke, builtin, Sem.run_bind, Sem.run_pure, Result.andThen_ok, List.map_toArray, List.map_cons, List.map_nil, hs, hx, e1]
  exact hK _ _ (h v' w' e2 ((Below.refl base w).grown e3 hbase (own_ge hown)))
theorem wpList_five1 {E SL : TypeId} (F : Five E SL) {rest : List Oper} (hgd : o.guard = none) (s x : Operand) (ho : o.op = .call { callee := .builtin .append, args := #[s, x], argTypes := #[SL, SL] }) (base : Nat) (v : Value) (n : Nat) (l : List Pr) (hn : n = l.length) (hs : a.eval s = v)
    (hown : w.ownsRow base E 5 v n (prv l)) (g : Nat) (r : Pr) (hx : a.eval x = .slice (some ⟨g, 0, none⟩) 1 1) (hg : w.heap[g]? = some (.cells (pr5 r).toArray E (0, 0))) (hb : n ≤ 1000000000) (hbase : base ≤ w.heap.size)
    (h : ∀ v' w', w'.ownsRow base E 5 v' (n + 1) (prv (l ++ [r])) → Below base w w' → wpList Tryz.prog ops Q rest (a.put o.dst v') w') : wpList Tryz.prog ops Q (o :: rest) a w := by
  subst hn
  obtain ⟨i0, hi0, hz0, hz1, hz2⟩ := info_parts F.info
  refine wpList_append_own w hgd s x _ ho base E i0 _ 5 40 F.sl hi0 hz0 hz1 hz2 rfl (by omega) v _ _ hs hown ⟨g, 0, none⟩ 1 1 (pr5 r) hx rfl (World.news_of_block (cs := (pr5 r).toArray) hg) (pr5_cell _) (by simp only [maxLen]; omega) (by omega) hbase ?_
  intro v' w' h1 h2 _
  refine h v' w' ?_ ((Below.refl base w).grown h2 hbase (own_ge hown))
  rw [prv_append, prv_one]
  exact h1
end

theorem y5_then {G : Prop} {W w1 : World} {b : Nat} {c0 c1 c2 c3 c4 : Value} (hb : Below W.heap.size W w1) (hlt : b < W.heap.size) (h0 : W.cell? ⟨b, 0, none⟩ = some c0) (h1 : W.cell? ⟨b, 1, none⟩ = some c1) (h2 : W.cell? ⟨b, 2, none⟩ = some c2) (h3 : W.cell? ⟨b, 3, none⟩ = some c3) (h4 : W.cell? ⟨b, 4, none⟩ = some c4)
    (f0 : W.frozen? ⟨b, 0, none⟩ = false) (f1 : W.frozen? ⟨b, 1, none⟩ = false) (f2 : W.frozen? ⟨b, 2, none⟩ = false) (f3 : W.frozen? ⟨b, 3, none⟩ = false) (f4 : W.frozen? ⟨b, 4, none⟩ = false)
    (k : w1.cell? ⟨b, 0, none⟩ = some c0 ∧ w1.cell? ⟨b, 1, none⟩ = some c1 ∧ w1.cell? ⟨b, 2, none⟩ = some c2 ∧ w1.cell? ⟨b, 3, none⟩ = some c3 ∧ w1.cell? ⟨b, 4, none⟩ = some c4 ∧
      w1.frozen? ⟨b, 0, none⟩ = false ∧ w1.frozen? ⟨b, 1, none⟩ = false ∧ w1.frozen? ⟨b, 2, none⟩ = false ∧ w1.frozen? ⟨b, 3, none⟩ = false ∧ w1.frozen? ⟨b, 4, none⟩ = false ∧ b < w1.heap.size → G) : G :=
  k ⟨(hb.cell (p := ⟨b, 0, none⟩) hlt).trans h0, (hb.cell (p := ⟨b, 1, none⟩) hlt).trans h1, (hb.cell (p := ⟨b, 2, none⟩) hlt).trans h2, (hb.cell (p := ⟨b, 3, none⟩) hlt).trans h3, (hb.cell (p := ⟨b, 4, none⟩) hlt).trans h4,
    (hb.frozen (p := ⟨b, 0, none⟩) hlt).trans f0, (hb.frozen (p := ⟨b, 1, none⟩) hlt).trans f1, (hb.frozen (p := ⟨b, 2, none⟩) hlt).trans f2, (hb.frozen (p := ⟨b, 3, none⟩) hlt).trans f3, (hb.frozen (p := ⟨b, 4, none⟩) hlt).trans f4, Nat.lt_of_lt_of_le hlt hb.size⟩

end Go.Proofs.YtcbfppangiopeaaGreat

namespace Go.Proofs.YtcbfppangiopeaaGreat
open Go.RowKit Go.Maps
set_option maxRecDepth 100000

/-- A pair lies in a block. -/
def QBox (w : World) (b : Nat) (x : Pr) : Prop := w.cell? ⟨b, 0, none⟩ = some (.int .u64 (u x.p.a.hi)) ∧ w.cell? ⟨b, 1, none⟩ = some (.int .u64 (u x.p.a.lo)) ∧ w.cell? ⟨b, 2, none⟩ = some (.bool x.p.a.v6) ∧ w.cell? ⟨b, 3, none⟩ = some (.int .i64 x.p.n) ∧ w.cell? ⟨b, 4, none⟩ = some (.int .i64 x.v) ∧ b < w.heap.size
theorem keep3L {W w' : World} {b : Nat} {c0 c1 c2 : Value} (h : Below W.heap.size W w') (hlt : b < W.heap.size) (h0 : W.cell? ⟨b, 0, none⟩ = some c0) (h1 : W.cell? ⟨b, 1, none⟩ = some c1) (h2 : W.cell? ⟨b, 2, none⟩ = some c2) :
    w'.cell? ⟨b, 0, none⟩ = some c0 ∧ w'.cell? ⟨b, 1, none⟩ = some c1 ∧ w'.cell? ⟨b, 2, none⟩ = some c2 ∧ Below W.heap.size W w' := ⟨(h.cell (p := ⟨b, 0, none⟩) hlt).trans h0, (h.cell (p := ⟨b, 1, none⟩) hlt).trans h1, (h.cell (p := ⟨b, 2, none⟩) hlt).trans h2, h⟩

section
variable {w : World} {r : Nat} {S : Nat → Prop} {n h : Int} {L : List Pr} {most : Nat}
set_option maxHeartbeats 1000000 in
theorem rib_inside (H : RibS w r S n h L most) (p : Pf) : Calls Tryz.prog 25 #[.pointer (some ⟨r, 0, none⟩), .agg #[.int .u64 (u p.a.hi), .int .u64 (u p.a.lo), .bool p.a.v6, .int .i64 p.n]] w fun e w' => e = .returned (.bool (L.any fun x => pins p x.p)) ∧ Below w.heap.size w w' := by
  obtain ⟨t, m, S0, D, HA, hI, rfl⟩ := H
  have HAA := Lib.hid HA
  clear HA hI
  obtain ⟨I, hIn⟩ : ∃ I, (L.any fun x => pins p x.p) = I := ⟨_, rfl⟩
  rw [hIn]
  have HIN := Lib.hid hIn
  clear hIn
  go_enter Tryz.func25, Tryz.ntmps25
  go_wp2_with fail
  generalize hW : World.alloc _ _ = W
  have hz : w.heap.size ≤ W.heap.size := by subst hW; go_size
  have hB : Below w.heap.size w W := by subst hW; go_grown
  have hpb : PBox W w.heap.size p := by subst hW; exact ⟨by go_simp <;> rfl, by go_simp <;> rfl, by go_simp <;> rfl, by go_simp <;> rfl, by go_simp <;> rfl, by go_simp <;> rfl, by go_simp <;> rfl, by go_simp <;> rfl, by go_size⟩
  obtain ⟨pa, pb, pc, pd, -, -, -, -, pz⟩ := hpb
  have HV := Lib.hid (HAA.out.keep hB)
  clear hW
  have La := fun x : Later W.heap.size W => (x.cell pz).trans pa
  have Lb := fun x : Later W.heap.size W => (x.cell pz).trans pb
  have Lc := fun x : Later W.heap.size W => (x.cell pz).trans pc
  have Ld := fun x : Later W.heap.size W => (x.cell pz).trans pd
  have cg : ∀ x : Later W.heap.size W, Calls Tryz.prog 58 #[.pointer (some ⟨t, 0, none⟩), .agg #[.int .u64 (u p.a.hi), .int .u64 (u p.a.lo), .bool p.a.v6, .int .i64 p.n]] x.at fun e w' => e = .returned (.bool I) ∧ Below x.at.heap.size x.at w' := fun x => by
    have := trie_inside (HV.out.keep x.below).tree p
    rw [HIN.out] at this
    exact this
  have CG := Lib.hid cg
  clear cg
  refine region_later W.heap.size (by kernel_rfl) (by kernel_rfl) ?_
  repeat (go_big_quiet_step (first | (go_at_call 58; exact later_of (Nat.le_refl _) (CG.out _)) | (go_at_call 41; exact later_same (routes_any (HV.out.keep (Later.below _))))))
  refine wpQuiet_nil ?_
  intro x
  have hx := x.below
  generalize x.at = V at hx ⊢
  clear x La Lb Lc Ld pa pb pc pd CG
  go_wp2
  go_ret
  exact ⟨rfl, hB.trans (hx.mono hz)⟩

set_option maxHeartbeats 1000000 in
theorem rib_size (H : RibS w r S n h L most) : Calls Tryz.prog 23 #[.pointer (some ⟨r, 0, none⟩)] w fun e w' => e = .returned (.tuple #[.int .i64 (L.length : Int), .int .i64 (nodesL L), .int .i64 (most : Int)]) ∧ Below w.heap.size w w' := by
  obtain ⟨t, m, S0, D, HA, hI, rfl⟩ := H
  have HAA := Lib.hid HA
  clear HA hI
  go_enter Tryz.func23, Tryz.ntmps23
  go_wp2_with fail
  refine (routes_any HAA.out).mono ?_
  rintro e w1 ⟨rfl, rfl⟩
  go_wp2_with fail
  refine (trie_len HAA.out.tree).mono ?_
  rintro e w2 ⟨rfl, rfl⟩
  go_wp2_with fail
  refine (trie_nodes HAA.out.tree).mono ?_
  rintro e w3 ⟨rfl, hw3⟩
  have HT := Lib.hid (HAA.out.tree.keep hw3)
  go_wp2_with fail
  refine (trie_slots HT.out).mono ?_
  rintro e w4 ⟨rfl, rfl⟩
  go_wp2
  exact bodyPost_ret (v := .tuple #[.int .i64 (L.length : Int), .int .i64 (nodesL L), .int .i64 (most : Int)]) (by simp [*, results, Tryz.results23, go_sem] <;> rfl) rfl ⟨rfl, hw3⟩

set_option maxHeartbeats 1000000 in
theorem route_any (x : Pr) (w : World) : Calls Tryz.prog 43 #[.agg #[.int .u64 (u x.p.a.hi), .int .u64 (u x.p.a.lo), .bool x.p.a.v6, .int .i64 x.p.n, .int .i64 x.v]] w fun e w' => e = .returned (.agg #[.int .u64 (u x.p.a.hi), .int .u64 (u x.p.a.lo), .bool x.p.a.v6, .int .i64 x.p.n, .int .i64 x.v]) ∧ Below w.heap.size w w' := by
  go_enter Tryz.func43, Tryz.ntmps43
  go_wp2
  refine bodyPost_ret (v := .agg #[.int .u64 (u x.p.a.hi), .int .u64 (u x.p.a.lo), .bool x.p.a.v6, .int .i64 x.p.n, .int .i64 x.v]) (by simp [*, results, Tryz.results43, go_sem] <;> rfl) rfl ⟨rfl, ?_⟩
  go_grown
def qv (x : Pr) : Value := .agg #[.int .u64 (u x.p.a.hi), .int .u64 (u x.p.a.lo), .bool x.p.a.v6, .int .i64 x.p.n, .int .i64 x.v]
def OptPost (w : World) (o : Option Pr) (e : Ending) (w' : World) : Prop := e = .returned (.tuple #[.agg #[.int .u64 (u (o.getD nilPr).p.a.hi), .int .u64 (u (o.getD nilPr).p.a.lo), .bool (o.getD nilPr).p.a.v6, .int .i64 (o.getD nilPr).p.n, .int .i64 (o.getD nilPr).v], .bool o.isSome]) ∧ Below w.heap.size w w'

set_option maxHeartbeats 2000000 in
theorem rib_longest (H : RibS w r S n h L most) (a : Ad) : Calls Tryz.prog 13 #[.pointer (some ⟨r, 0, none⟩), .agg #[.int .u64 (u a.hi), .int .u64 (u a.lo), .bool a.v6]] w (OptPost w (longL L a)) := by
  obtain ⟨t, m, S0, D, HA, hI, rfl⟩ := H
  have HAA := Lib.hid HA
  clear HA hI
  obtain ⟨o, ho⟩ : ∃ o, longL L a = o := ⟨_, rfl⟩
  rw [ho]
  obtain ⟨y, hy⟩ : ∃ y, o.getD nilPr = y := ⟨_, rfl⟩
  have cl : ∀ W, RibA W r t m S0 D n h L most (hopsL L) → Calls Tryz.prog 42 #[.pointer (some ⟨t, 0, none⟩), .agg #[.int .u64 (u a.hi), .int .u64 (u a.lo), .bool a.v6]] W fun e w' => e = .returned (.tuple #[.agg #[.int .u64 (u y.p.a.hi), .int .u64 (u y.p.a.lo), .bool y.p.a.v6, .int .i64 y.p.n, .int .i64 y.v], .bool o.isSome]) ∧ Below W.heap.size W w' := fun W hA => by
    have := trie_longest hA.tree a
    rw [ho, hy] at this
    exact this
  have CL := Lib.hid cl
  unfold OptPost
  rw [hy]
  clear cl ho hy
  go_enter Tryz.func13, Tryz.ntmps13
  go_upto_region 1 with fail
  generalize hW : World.alloc _ _ = W
  have hz : w.heap.size ≤ W.heap.size := by subst hW; go_size
  have hB : Below w.heap.size w W := by subst hW; go_grown
  have pa : W.cell? ⟨w.heap.size, 0, none⟩ = some (.int .u64 (u a.hi)) := by subst hW; go_simp <;> rfl
  have pb : W.cell? ⟨w.heap.size, 1, none⟩ = some (.int .u64 (u a.lo)) := by subst hW; go_simp <;> rfl
  have pc : W.cell? ⟨w.heap.size, 2, none⟩ = some (.bool a.v6) := by subst hW; go_simp <;> rfl
  have h3 : W.heap[w.heap.size + 1]? = some (.cells #[.int .u64 0, .int .u64 0, .bool false, .int .i64 0, .int .i64 0] 51 (0, 0)) := by subst hW; repeat (first | (refine hp_new ?_; (simp; done)) | (refine hp_old ?_ ?_; · (first | (simp; done) | (simp; omega))))
  have z9 := lt_of_block h3
  have pz : w.heap.size < W.heap.size := by omega
  have HV := Lib.hid (HAA.out.keep hB)
  clear hW HAA
  go_cut [6, 7] (fun b s wx => s = .bool o.isSome ∧ ∃ q, b = .pointer (some ⟨q, 0, none⟩) ∧ QBox wx q y ∧ Below W.heap.size W wx)
  case first =>
    go_region_held3 (fun w' => w'.cell? ⟨w.heap.size, 0, none⟩ = some (.int .u64 (u a.hi)) ∧ w'.cell? ⟨w.heap.size, 1, none⟩ = some (.int .u64 (u a.lo)) ∧ w'.cell? ⟨w.heap.size, 2, none⟩ = some (.bool a.v6) ∧ Below W.heap.size W w')
      (first | exact keep3L hk5 pz pa pb pc | (refine keep3L ?_ pz pa pb pc; go_grown))
      (first | (go_at_call 41; refine (routes_any (HV.out.keep (by go_grown))).mono ?_; rintro e w4 ⟨rfl, rfl⟩) | (go_at_call 42; refine (CL.out _ (HV.out.keep (by go_grown))).mono ?_; rintro e w5 ⟨rfl, hw5⟩; have hk5 := below_of (w := W) (by go_grown) hw5; have zk5 := hk5.size; (try (refine y5_then (b := W.heap.size) (c0 := .int .u64 0) (c1 := .int .u64 0) (c2 := .bool false) (c3 := .int .i64 0) (c4 := .int .i64 0) hw5 ?_ ?_ ?_ ?_ ?_ ?_ ?_ ?_ ?_ ?_ ?_ (fun y4 => ?_); go_size; go_simp; go_simp; go_simp; go_simp; go_simp; go_simp; go_simp; go_simp; go_simp; go_simp; obtain ⟨ya, yb, yc, yg, yi, yd, ye, yf, yh, yj, yz⟩ := y4))))
    all_goals (go_wp2_with fail; go_meet)
    all_goals
      refine ⟨rfl, _, rfl, ⟨?_, ?_, ?_, ?_, ?_, ?_⟩, ?_⟩
      all_goals first | (go_simp; done) | (go_simp <;> rfl) | go_size | go_grown
  case rest =>
    obtain ⟨rfl, q, rfl, ⟨ya, yb, yc, yg, yi, yz⟩, hbc⟩ := hcut
    have h3' := (hbc.block _ z9).trans h3
    have b5 := hB.trans (hbc.mono hz)
    have hbz := hbc.size
    clear h3 hbc pa pb pc pz HV CL
    go_wp2_with fail
    refine (route_any y _).mono ?_
    rintro e w6 ⟨rfl, hw6⟩
    have h6 := (hw6.block (w.heap.size + 1) (by omega)).trans h3'
    have b6 := b5.trans (hw6.mono b5.size)
    have r0 : w6.cell? ⟨w.heap.size + 1, 0, none⟩ = some (.int .u64 0) := by rw [cell_row h6]; rfl
    have r1 : w6.cell? ⟨w.heap.size + 1, 1, none⟩ = some (.int .u64 0) := by rw [cell_row h6]; rfl
    have r2 : w6.cell? ⟨w.heap.size + 1, 2, none⟩ = some (.bool false) := by rw [cell_row h6]; rfl
    have r3 : w6.cell? ⟨w.heap.size + 1, 3, none⟩ = some (.int .i64 0) := by rw [cell_row h6]; rfl
    have r4 : w6.cell? ⟨w.heap.size + 1, 4, none⟩ = some (.int .i64 0) := by rw [cell_row h6]; rfl
    have q0 := frozen_of_row w6 (w.heap.size + 1) 0 _ _ h6
    have q1 := frozen_of_row w6 (w.heap.size + 1) 1 _ _ h6
    have q2 := frozen_of_row w6 (w.heap.size + 1) 2 _ _ h6
    have q3 := frozen_of_row w6 (w.heap.size + 1) 3 _ _ h6
    have q4 := frozen_of_row w6 (w.heap.size + 1) 4 _ _ h6
    clear h6 h3' hw6 ya yb yc yg yi
    go_wp2
    refine bodyPost_ret (v := .tuple #[.agg #[.int .u64 (u y.p.a.hi), .int .u64 (u y.p.a.lo), .bool y.p.a.v6, .int .i64 y.p.n, .int .i64 y.v], .bool o.isSome]) (by simp [*, results, Tryz.results13, go_sem] <;> rfl) rfl ⟨rfl, ?_⟩
    exact b6.trans (((((((Below.refl _ _).setCell (by simp) _).setCell (by simp) _).setCell (by simp) _).setCell (by simp) _).setCell (by simp) _))

end

end Go.Proofs.YtcbfppangiopeaaGreat

namespace Go.Proofs.YtcbfppangiopeaaGreat
open Go.RowKit Go.Maps
set_option maxRecDepth 100000

section
variable {w : World} {r : Nat} {S : Nat → Prop} {n h : Int} {L : List Pr} {most : Nat}
/-- The last one that covers a prefix. -/
def govL (L : List Pr) (p : Pf) : Option Pr := (L.filter fun x => pcov x.p p).getLast?
set_option maxHeartbeats 2000000 in
theorem rib_governs (H : RibS w r S n h L most) (p : Pf) : Calls Tryz.prog 21 #[.pointer (some ⟨r, 0, none⟩), .agg #[.int .u64 (u p.a.hi), .int .u64 (u p.a.lo), .bool p.a.v6, .int .i64 p.n]] w (OptPost w (govL L p)) := by
  obtain ⟨t, m, S0, D, HA, hI, rfl⟩ := H
  have hln : L.length ≤ 4096 := by have := hI.few; have := hI.n0; omega
  have HAA := Lib.hid HA
  clear HA hI
  have hfl := List.length_filter_le (fun x : Pr => pcov x.p p) L
  unfold govL
  obtain ⟨F, hF⟩ : ∃ F, (L.filter fun x => pcov x.p p) = F := ⟨_, rfl⟩
  have ca : ∀ W, RibA W r t m S0 D n h L most (hopsL L) → Calls Tryz.prog 52 #[.pointer (some ⟨t, 0, none⟩), .agg #[.int .u64 (u p.a.hi), .int .u64 (u p.a.lo), .bool p.a.v6, .int .i64 p.n]] W (ListPost W F) := fun W hA => by
    have := trie_above hA.tree p
    rw [hF] at this
    exact this
  rw [hF] at hfl ⊢
  have CA := Lib.hid ca
  clear ca hF
  go_enter Tryz.func21, Tryz.ntmps21
  go_wp2_with fail
  generalize hW : World.alloc _ _ = W
  have hz : w.heap.size ≤ W.heap.size := by subst hW; go_size
  have hB : Below w.heap.size w W := by subst hW; go_grown
  have hpb : PBox W w.heap.size p := by subst hW; exact ⟨by go_simp <;> rfl, by go_simp <;> rfl, by go_simp <;> rfl, by go_simp <;> rfl, by go_simp <;> rfl, by go_simp <;> rfl, by go_simp <;> rfl, by go_simp <;> rfl, by go_size⟩
  have h3 : W.heap[w.heap.size + 1]? = some (.cells #[.int .u64 0, .int .u64 0, .bool false, .int .i64 0, .int .i64 0] 51 (0, 0)) := by subst hW; repeat (first | (refine hp_new ?_; (simp; done)) | (refine hp_old ?_ ?_; · (first | (simp; done) | (simp; omega))))
  have z9 := lt_of_block h3
  obtain ⟨pa, pb, pc, pd, -, -, -, -, pz⟩ := hpb
  have HV := Lib.hid (HAA.out.keep hB)
  clear hW HAA
  have La := fun x : Later W.heap.size W => (x.cell pz).trans pa
  have Lb := fun x : Later W.heap.size W => (x.cell pz).trans pb
  have Lc := fun x : Later W.heap.size W => (x.cell pz).trans pc
  have Ld := fun x : Later W.heap.size W => (x.cell pz).trans pd
  refine region_tail 3 W.heap.size (by kernel_rfl) (by kernel_rfl) ?_
  simp only [List.take_succ_cons, List.take_zero, List.drop_succ_cons, List.drop_zero]
  repeat (go_big_quiet_step ((go_at_call 41; exact later_same (routes_any (HV.out.keep (Later.below _))))))
  refine wpQuiet_nil ?_
  intro x
  have hx := x.below
  generalize x.at = V at hx ⊢
  clear x La Lb Lc Ld pa pb pc pd
  have HV2 := Lib.hid (HV.out.keep hx)
  have bV := hB.trans (hx.mono hz)
  have hV3 := (hx.block _ z9).trans h3
  have vz := hx.size
  clear hx HV h3 hB pz
  go_wp2_with fail
  refine (CA.out _ HV2.out).mono ?_
  rintro e w5 ⟨v5, rfl, ho5, hw5⟩
  have b5 := bV.trans (hw5.mono bV.size)
  have h5 := (hw5.block (w.heap.size + 1) (by omega)).trans hV3
  have z5 := hw5.size
  have HO := Lib.hid ho5
  obtain ⟨A5, c5, rfl, -⟩ := own_val ho5
  clear ho5 hw5 HV2 CA hV3 bV
  rcases Nat.eq_zero_or_pos F.length with hl | hl
  · have hF0 : F = [] := List.eq_nil_of_length_eq_zero hl
    subst hF0
    have r0 : w5.cell? ⟨w.heap.size + 1, 0, none⟩ = some (.int .u64 0) := by rw [cell_row h5]; rfl
    have r1 : w5.cell? ⟨w.heap.size + 1, 1, none⟩ = some (.int .u64 0) := by rw [cell_row h5]; rfl
    have r2 : w5.cell? ⟨w.heap.size + 1, 2, none⟩ = some (.bool false) := by rw [cell_row h5]; rfl
    have r3 : w5.cell? ⟨w.heap.size + 1, 3, none⟩ = some (.int .i64 0) := by rw [cell_row h5]; rfl
    have r4 : w5.cell? ⟨w.heap.size + 1, 4, none⟩ = some (.int .i64 0) := by rw [cell_row h5]; rfl
    have q0 := frozen_of_row w5 (w.heap.size + 1) 0 _ _ h5
    have q1 := frozen_of_row w5 (w.heap.size + 1) 1 _ _ h5
    have q2 := frozen_of_row w5 (w.heap.size + 1) 2 _ _ h5
    have q3 := frozen_of_row w5 (w.heap.size + 1) 3 _ _ h5
    have q4 := frozen_of_row w5 (w.heap.size + 1) 4 _ _ h5
    clear h5
    go_wp2
    refine bodyPost_ret (v := .tuple #[.agg #[.int .u64 0, .int .u64 0, .bool false, .int .i64 0, .int .i64 0], .bool false]) (by simp [*, results, Tryz.results21, go_sem] <;> rfl) rfl ⟨rfl, ?_⟩
    exact b5.trans (((((((Below.refl _ _).setCell (by simp) _).setCell (by simp) _).setCell (by simp) _).setCell (by simp) _).setCell (by simp) _))
  · obtain ⟨k, hk⟩ : ∃ k, F.length = k + 1 := ⟨F.length - 1, by omega⟩
    have hkl : k < F.length := by omega
    have hgo : F.getLast? = some F[k] := by
      rw [List.getLast?_eq_getElem?, hk, Nat.add_sub_cancel, List.getElem?_eq_getElem hkl]
    obtain ⟨g, cg, eg, -, zg, hcc⟩ := row_cell HO.out rfl hkl
    simp only [Value.slice.injEq, true_and] at eg
    obtain ⟨rfl, rfl⟩ := eg
    have m0 : w5.cell? ⟨g, k * 5, none⟩ = some (.int .u64 (u F[k].p.a.hi)) := hcc 0 (by omega)
    have m1 : w5.cell? ⟨g, k * 5 + 1, none⟩ = some (.int .u64 (u F[k].p.a.lo)) := hcc 1 (by omega)
    have m2 : w5.cell? ⟨g, k * 5 + 2, none⟩ = some (.bool F[k].p.a.v6) := hcc 2 (by omega)
    have m3 : w5.cell? ⟨g, k * 5 + 3, none⟩ = some (.int .i64 F[k].p.n) := hcc 3 (by omega)
    have m4 : w5.cell? ⟨g, k * 5 + 4, none⟩ = some (.int .i64 F[k].v) := hcc 4 (by omega)
    generalize F[k] = y at m0 m1 m2 m3 m4 hgo
    have HGO := Lib.hid hgo
    have t1 : (((k + 1 : Nat) : Int) == 0) = false := by simp; omega
    have hk9 : (k : Int) + 1 ≤ 5000 := by omega
    rw [hk]
    have HK := Lib.hid hk
    clear hk hkl hl hfl hgo hcc HO
    go_wp2_with fail
    refine (route_any y _).mono ?_
    rintro e w6 ⟨rfl, hw6⟩
    have h6 := (hw6.block (w.heap.size + 1) (by omega)).trans h5
    have b6 := b5.trans (hw6.mono b5.size)
    have r0 : w6.cell? ⟨w.heap.size + 1, 0, none⟩ = some (.int .u64 0) := by rw [cell_row h6]; rfl
    have r1 : w6.cell? ⟨w.heap.size + 1, 1, none⟩ = some (.int .u64 0) := by rw [cell_row h6]; rfl
    have r2 : w6.cell? ⟨w.heap.size + 1, 2, none⟩ = some (.bool false) := by rw [cell_row h6]; rfl
    have r3 : w6.cell? ⟨w.heap.size + 1, 3, none⟩ = some (.int .i64 0) := by rw [cell_row h6]; rfl
    have r4 : w6.cell? ⟨w.heap.size + 1, 4, none⟩ = some (.int .i64 0) := by rw [cell_row h6]; rfl
    have q0 := frozen_of_row w6 (w.heap.size + 1) 0 _ _ h6
    have q1 := frozen_of_row w6 (w.heap.size + 1) 1 _ _ h6
    have q2 := frozen_of_row w6 (w.heap.size + 1) 2 _ _ h6
    have q3 := frozen_of_row w6 (w.heap.size + 1) 3 _ _ h6
    have q4 := frozen_of_row w6 (w.heap.size + 1) 4 _ _ h6
    clear h6 h5 hw6 m0 m1 m2 m3 m4
    go_wp2
    refine bodyPost_ret (v := .tuple #[.agg #[.int .u64 (u y.p.a.hi), .int .u64 (u y.p.a.lo), .bool y.p.a.v6, .int .i64 y.p.n, .int .i64 y.v], .bool true]) (by simp [*, results, Tryz.results21, go_sem] <;> rfl) rfl ⟨by rw [HGO.out]; rfl, ?_⟩
    exact b6.trans (((((((Below.refl _ _).setCell (by simp) _).setCell (by simp) _).setCell (by simp) _).setCell (by simp) _).setCell (by simp) _))
end

end Go.Proofs.YtcbfppangiopeaaGreat

namespace Go.Proofs.YtcbfppangiopeaaGreat
open Go.RowKit Go.Maps
set_option maxRecDepth 100000

theorem pof_128' (a : Ad) : pof a 128 = pof a (wid a.v6) := by
  have h : clamp a.v6 128 = clamp a.v6 (wid a.v6) := by
    unfold clamp wid
    cases a.v6 <;> decide
  unfold pof
  rw [h]
/-- What governs all digits of an address is its longest. -/
theorem gov_full {L : List Pr} (h : Srt L) (a : Ad) : govL L (pof a 128) = longL L a := by
  unfold govL longL
  rw [pof_128']
  have e : L.filter (fun x => pcov x.p (pof a (wid a.v6))) = L.filter (fun x => pcon x.p a) := List.filter_congr fun x hx => cov_full (h.1 x hx) a
  rw [e]
/-- Where none lies inside what covers a prefix is what contains its first address. -/
theorem gov_first {L : List Pr} {p : Pf} (hp : psane p = true) (hi : (L.any fun x => pins p x.p) = false) : govL L p = longL L p.a := by
  unfold govL longL
  have e : L.filter (fun x => pcov x.p p) = L.filter (fun x => pcon x.p p.a) := List.filter_congr fun x hx => by
    have hin : pins p x.p = false := by
      cases hc : pins p x.p
      · rfl
      · have : (L.any fun x => pins p x.p) = true := List.any_eq_true.2 ⟨x, hx, hc⟩
        rw [hi] at this
        cases this
    rw [Bool.eq_iff_iff]
    constructor
    · exact pcov_con
    · intro hc
      obtain ⟨c1, c2, c3⟩ := (pcon_iff _ _).1 hc
      rcases Int.lt_or_le p.n x.p.n with e | e
      · exfalso
        have hcv : pcov p x.p = true := (pcov_iff _ _).2 ⟨hp, c1, by omega, c2, fun j hj => (c3 j (by omega)).symm⟩
        rw [ins_eq hcv] at hin
        have : pfEq p x.p = true := by cases hq : pfEq p x.p <;> simp_all
        have := (pfEq_iff _ _).1 this
        rw [← this] at e
        omega
      · exact (pcov_iff _ _).2 ⟨c1, hp, e, c2.symm, fun j hj => c3 j hj⟩
  rw [e]
theorem con_lt' {x y : Pf} {a : Ad} (hx : pcon x a = true) (hy : pcon y a = true) (h : pcmp x y < 0) : x.n < y.n := by
  obtain ⟨x1, x2, x3⟩ := (pcon_iff x a).1 hx
  obtain ⟨y1, y2, y3⟩ := (pcon_iff y a).1 hy
  rcases Int.lt_or_le x.n y.n with e | e
  · exact e
  · have hc : pcov y x = true := (pcov_iff y x).2 ⟨y1, x1, e, by rw [← y2, x2], fun j hj => by rw [← x3 j (by omega), y3 j hj]⟩
    have h1 := cov_cmp hc
    have h2 := pcmp_anti x y
    omega
/-- None that contains an address is longer than the longest; which is one of them. -/
theorem long_most {L : List Pr} (h : Srt L) {a : Ad} {x : Pr} (hx : x ∈ L) (hc : pcon x.p a = true) : ∃ y, longL L a = some y ∧ x.p.n ≤ y.p.n := by
  unfold longL
  have hm : x ∈ L.filter fun x => pcon x.p a := List.mem_filter.2 ⟨hx, hc⟩
  have hs := filter_srt h (fun x => pcon x.p a)
  obtain ⟨i, hi, rfl⟩ := List.getElem_of_mem hm
  generalize hF : (L.filter fun x => pcon x.p a) = F at hi hs hm ⊢
  have hne : F ≠ [] := fun e => by rw [e] at hi; cases hi
  refine ⟨F.getLast hne, List.getLast?_eq_some_getLast hne, ?_⟩
  rw [List.getLast_eq_getElem]
  rcases Nat.lt_or_ge i (F.length - 1) with e | e
  · have h1 := List.pairwise_iff_getElem.1 hs.2 i (F.length - 1) hi (by omega) e
    have k2 : pcon F[F.length - 1].p a = true := by
      have : F[F.length - 1] ∈ (L.filter fun x => pcon x.p a) := by rw [hF]; exact List.getElem_mem _
      exact (List.mem_filter.1 this).2
    exact Int.le_of_lt (con_lt' hc k2 h1)
  · have : i = F.length - 1 := by omega
    subst this
    exact Int.le_refl _
theorem long_mem {L : List Pr} {a : Ad} {y : Pr} (h : longL L a = some y) : y ∈ L ∧ pcon y.p a = true := by
  unfold longL at h
  have := List.mem_of_getLast? h
  exact List.mem_filter.1 this
def prB (h l : Int) (v : Bool) (n o : Int) (h' l' : Int) (v' : Bool) (n' o' : Int) : Bool := pfB h l v n h' l' v' n' && o == o'
@[simp] theorem prB_self (h l : Int) (v : Bool) (n o : Int) : prB h l v n o h l v n o = true := by simp [prB]
@[simp] theorem eq_pr (h l h' l' : Int) (v v' : Bool) (n n' o o' : Int) (w : World) :
    (Op.equalIn 10000 51 (.agg #[.int .u64 h, .int .u64 l, .bool v, .int .i64 n, .int .i64 o]) (.agg #[.int .u64 h', .int .u64 l', .bool v', .int .i64 n', .int .i64 o'])).run Tryz.prog w = .ok (prB h l v n o h' l' v' n' o') w := by
  rw [show (10000 : Nat) = 9999 + 1 from rfl, run_equalIn_struct w 9999 _ _ _ (by kernel_rfl) Tryz.stoodInHeld51]
  simp [go_sem, prB, pfB, adB]
  by_cases h1 : h = h' <;> by_cases h2 : l = l' <;> by_cases h3 : v = v' <;> by_cases h4 : n = n' <;> by_cases h5 : o = o' <;> simp [h1, h2, h3, h4, h5]
theorem prB_iff (x y : Pr) : prB (u x.p.a.hi) (u x.p.a.lo) x.p.a.v6 x.p.n x.v (u y.p.a.hi) (u y.p.a.lo) y.p.a.v6 y.p.n y.v = decide (x = y) := by
  obtain ⟨p, n⟩ := x
  obtain ⟨q, m⟩ := y
  have h := pfEq_iff p q
  unfold pfEq at h
  rw [Bool.eq_iff_iff, decide_eq_true_iff]
  unfold prB
  rw [Bool.and_eq_true, beq_iff_eq, h]
  simp

end Go.Proofs.YtcbfppangiopeaaGreat

namespace Go.Proofs.YtcbfppangiopeaaGreat
open Go.RowKit Go.Maps
set_option maxRecDepth 100000

/-- Does one lie inside of a prefix? -/
def insL (L : List Pr) (p : Pf) : Bool := L.any fun x => pins p x.p
def wideN (L : List Pr) (a : Ad) : Nat → Int → Int
  | 0, m => m
  | k + 1, m => if insL L (pof a m) = true then wideN L a k (m + 1) else m
/-- How many digits the shortest one with so many at least has. -/
def wideM (L : List Pr) (a : Ad) (least : Int) : Int := wideN L a (wid a.v6 - clamp a.v6 least).toNat (clamp a.v6 least)
def wideP (L : List Pr) (a : Ad) (least : Int) : Pf := pof a (wideM L a least)
def leafO (L : List Pr) (a : Ad) : Option Pr := (govL L (wideP L a 0)).map fun x => ⟨wideP L a 0, x.v⟩
def exactO (L : List Pr) (a : Ad) : Option Pr := (longL L a).map fun x => ⟨pof a (wid a.v6), x.v⟩
def goodL (L : List Pr) (x : Pr) : Bool := (govL L x.p).isSome && (((govL L x.p).getD nilPr).v == x.v && !insL L x.p)

theorem ins_full (L : List Pr) (a : Ad) : insL L (pof a (wid a.v6)) = false := by
  unfold insL
  rw [List.any_eq_false]
  intro x hx hc
  unfold pins at hc
  rw [Bool.and_eq_true, decide_eq_true_iff] at hc
  obtain ⟨h1, h2, h3, h4, h5⟩ := (pcov_iff _ _).1 hc.1
  have hb := (psane_bd h2).2
  have hw := wid_bd a.v6
  have e : (pof a (wid a.v6)).n = wid a.v6 := pof_n a _ (by omega) (Int.le_refl _)
  have hv : a.v6 = x.p.a.v6 := h4
  have h6 := hc.2
  rw [e, hv] at h6
  omega
theorem wideN_spec (L : List Pr) (a : Ad) : ∀ (k : Nat) (m : Int), m + k = wid a.v6 → m ≤ wideN L a k m ∧ wideN L a k m ≤ wid a.v6 ∧ insL L (pof a (wideN L a k m)) = false ∧ ∀ j, m ≤ j → j < wideN L a k m → insL L (pof a j) = true := by
  intro k
  induction k with
  | zero =>
    intro m hm
    have e : m = wid a.v6 := by omega
    subst e
    exact ⟨Int.le_refl _, Int.le_refl _, ins_full L a, fun j h1 h2 => absurd h2 (by simp only [wideN]; omega)⟩
  | succ k ih =>
    intro m hm
    unfold wideN
    by_cases hi : insL L (pof a m) = true
    · rw [if_pos hi]
      obtain ⟨h1, h2, h3, h4⟩ := ih (m + 1) (by omega)
      refine ⟨by omega, h2, h3, fun j hj1 hj2 => ?_⟩
      by_cases e : j = m
      · rw [e]; exact hi
      · exact h4 j (by omega) hj2
    · rw [if_neg hi]
      exact ⟨Int.le_refl _, by omega, bool_not hi, fun j h1 h2 => by omega⟩
theorem wide_spec (L : List Pr) (a : Ad) (least : Int) : clamp a.v6 least ≤ wideM L a least ∧ wideM L a least ≤ wid a.v6 ∧ insL L (wideP L a least) = false ∧ ∀ j, clamp a.v6 least ≤ j → j < wideM L a least → insL L (pof a j) = true := by
  have hb := clamp_wid a.v6 least
  exact wideN_spec L a _ _ (by omega)
theorem wide_bd (L : List Pr) (a : Ad) (least : Int) : 0 ≤ wideM L a least ∧ wideM L a least ≤ wid a.v6 := by
  have hb := clamp_wid a.v6 least
  have hs := wide_spec L a least
  exact ⟨by omega, hs.2.1⟩
theorem wide_eq {L : List Pr} {a : Ad} {least m : Int} (h1 : clamp a.v6 least ≤ m) (_ : m ≤ wid a.v6) (h3 : insL L (pof a m) = false) (h4 : ∀ j, clamp a.v6 least ≤ j → j < m → insL L (pof a j) = true) : wideM L a least = m := by
  obtain ⟨s1, s2, s3, s4⟩ := wide_spec L a least
  rcases Int.lt_trichotomy (wideM L a least) m with e | e | e
  · have := h4 _ s1 e
    unfold wideP at s3
    rw [s3] at this
    cases this
  · exact e
  · have := s4 m h1 e
    rw [h3] at this
    cases this
theorem wide_n (L : List Pr) (a : Ad) (least : Int) : (wideP L a least).n = wideM L a least := by
  have hb := wide_bd L a least
  exact pof_n a _ hb.1 hb.2
theorem wide_sane (L : List Pr) (a : Ad) (least : Int) : psane (wideP L a least) = true := psane_pof _ _
theorem wide_con (L : List Pr) (a : Ad) (least : Int) : pcon (wideP L a least) a = true := con_pof _ _
theorem cov_con {p q : Pf} {b : Ad} (h : pcov p q = true) (hc : pcon q b = true) : pcon p b = true := by
  obtain ⟨h1, h2, h3, h4, h5⟩ := (pcov_iff _ _).1 h
  obtain ⟨c1, c2, c3⟩ := (pcon_iff _ _).1 hc
  exact (pcon_iff _ _).2 ⟨h1, by rw [c2, h4], fun j hj => by rw [c3 j (by omega), h5 j hj]⟩
theorem cov_pofI {a : Ad} {m n : Int} (h0 : 0 ≤ m) (h : m ≤ n) (hn : n ≤ wid a.v6) : pcov (pof a m) (pof a n) = true := by
  obtain ⟨m', rfl⟩ := Int.eq_ofNat_of_zero_le h0
  obtain ⟨n', rfl⟩ := Int.eq_ofNat_of_zero_le (show 0 ≤ n by omega)
  rw [wid_wd] at hn
  exact cov_pof (by omega) (by omega)
theorem ins_mono {L : List Pr} {p q : Pf} (h : pcov p q = true) (hi : insL L q = true) : insL L p = true := by
  obtain ⟨x, hx, hc⟩ := List.any_eq_true.1 hi
  refine List.any_eq_true.2 ⟨x, hx, ?_⟩
  unfold pins at hc ⊢
  rw [Bool.and_eq_true, decide_eq_true_iff] at hc ⊢
  have h3 := ((pcov_iff _ _).1 h).2.2.1
  exact ⟨cov_trans h hc.1, by omega⟩
theorem ins_anti {L : List Pr} {p q : Pf} (h : pcov p q = true) (hi : insL L p = false) : insL L q = false :=
  bool_not fun e => by
    have := ins_mono h e
    rw [hi] at this
    cases this
/-- What governs a block inside of which none lies is the longest of each of its addresses. -/
theorem gov_con {L : List Pr} {p : Pf} {b : Ad} (hi : insL L p = false) (hb : pcon p b = true) : govL L p = longL L b := by
  unfold govL longL
  obtain ⟨b1, b2, b3⟩ := (pcon_iff _ _).1 hb
  have e : L.filter (fun x => pcov x.p p) = L.filter (fun x => pcon x.p b) := List.filter_congr fun x hx => by
    rw [Bool.eq_iff_iff]
    constructor
    · exact fun hc => cov_con hc hb
    · intro hc
      obtain ⟨c1, c2, c3⟩ := (pcon_iff _ _).1 hc
      rcases Int.lt_or_le p.n x.p.n with e | e
      · exfalso
        have hcv : pcov p x.p = true := (pcov_iff _ _).2 ⟨b1, c1, by omega, by rw [← b2, c2], fun j hj => by rw [← c3 j (by omega), b3 j hj]⟩
        have : insL L p = true := List.any_eq_true.2 ⟨x, hx, by unfold pins; rw [hcv, decide_eq_true e]; rfl⟩
        rw [hi] at this
        cases this
      · exact (pcov_iff _ _).2 ⟨c1, b1, e, by rw [← c2, b2], fun j hj => by rw [← b3 j (by omega), c3 j hj]⟩
  rw [e]
theorem gov_wide (L : List Pr) (a : Ad) (least : Int) : govL L (wideP L a least) = longL L a := gov_con (wide_spec L a least).2.2.1 (wide_con L a least)
theorem gov_all (L : List Pr) (a : Ad) : govL L (pof a (wid a.v6)) = longL L a := gov_con (ins_full L a) (con_pof _ _)
theorem leaf_eq (L : List Pr) (a : Ad) : leafO L a = (longL L a).map fun x => ⟨wideP L a 0, x.v⟩ := by unfold leafO; rw [gov_wide]
/-- Two addresses of a block have the same first digits. -/
theorem pof_con {a b : Ad} {m j : Int} (h0 : 0 ≤ j) (hj : j ≤ m) (hm : m ≤ wid a.v6) (hc : pcon (pof a m) b = true) : pof b j = pof a j := by
  have h := (con_iff_pof _ _).1 (cov_con (cov_pofI h0 hj hm) hc)
  rwa [pof_n a j h0 (by omega)] at h
theorem wide_same {L : List Pr} {a b : Ad} {least : Int} (hc : pcon (wideP L a least) b = true) : wideP L b least = wideP L a least := by
  have hv : b.v6 = a.v6 := ((pcon_iff _ _).1 hc).2.1
  obtain ⟨s1, s2, s3, s4⟩ := wide_spec L a least
  have hb := wide_bd L a least
  have hcl := clamp_wid a.v6 least
  have hp : ∀ j, 0 ≤ j → j ≤ wideM L a least → pof b j = pof a j := fun j h1 h2 => pof_con h1 h2 s2 hc
  have e : wideM L b least = wideM L a least := by
    refine wide_eq (by rw [hv]; exact s1) (by rw [hv]; exact s2) ?_ fun j h1 h2 => ?_
    · rw [hp _ hb.1 (Int.le_refl _)]; exact s3
    · rw [hv] at h1
      rw [hp j (by omega) (by omega)]
      exact s4 j h1 h2
  unfold wideP
  rw [e]
  exact hp _ hb.1 (Int.le_refl _)
/-- Blocks of two addresses are one, or apart. -/
theorem wide_two (L : List Pr) (a b : Ad) (least : Int) : pcon (wideP L a least) b = decide (wideP L a least = wideP L b least) ∧ (wideP L a least ≠ wideP L b least → papa (wideP L a least) (wideP L b least) = true) := by
  have h1 : ∀ a b, pcon (wideP L a least) b = true ↔ wideP L a least = wideP L b least := fun a b => by
    constructor
    · exact fun h => (wide_same h).symm
    · intro h
      rw [h]
      exact wide_con L b least
  constructor
  · rw [Bool.eq_iff_iff, decide_eq_true_iff]
    exact h1 a b
  · intro hne
    rw [apa_eq (wide_sane _ _ _) (wide_sane _ _ _)]
    have n1 : pcov (wideP L a least) (wideP L b least) = false := bool_not fun e => hne ((h1 a b).1 (cov_con e (wide_con L b least)))
    have n2 : pcov (wideP L b least) (wideP L a least) = false := bool_not fun e => hne ((h1 b a).1 (cov_con e (wide_con L a least))).symm
    rw [n1, n2]
    rfl
/-- With one digit less one lies inside. -/
theorem wide_parent (L : List Pr) (a : Ad) (h : (pparent (wideP L a 0)).2 = true) : insL L (pparent (wideP L a 0)).1 = true := by
  obtain ⟨s1, s2, s3, s4⟩ := wide_spec L a 0
  have hb := wide_bd L a 0
  have hw := wid_bd a.v6
  have hcl : clamp a.v6 0 = 0 := clamp_id _ _ (Int.le_refl _) (by omega)
  by_cases h0 : wideM L a 0 = 0
  · unfold wideP at h
    rw [h0, chain_stop] at h
    cases h
  · unfold wideP
    rw [chain_parent a _ (by omega) s2]
    exact s4 _ (by omega) (by omega)
theorem leaf_good {L : List Pr} {a : Ad} {x : Pr} (h : leafO L a = some x) : goodL L x = true := by
  unfold leafO at h
  obtain ⟨y, hy, rfl⟩ := Option.map_eq_some_iff.1 h
  unfold goodL
  show ((govL L (wideP L a 0)).isSome && (((govL L (wideP L a 0)).getD nilPr).v == y.v && !insL L (wideP L a 0))) = true
  rw [hy, (wide_spec L a 0).2.2.1]
  simp
theorem exact_good {L : List Pr} {a : Ad} {x : Pr} (h : exactO L a = some x) : goodL L x = true := by
  unfold exactO at h
  obtain ⟨y, hy, rfl⟩ := Option.map_eq_some_iff.1 h
  unfold goodL
  show ((govL L (pof a (wid a.v6))).isSome && (((govL L (pof a (wid a.v6))).getD nilPr).v == y.v && !insL L (pof a (wid a.v6)))) = true
  rw [gov_all, hy, ins_full]
  simp
/-- A good block lies in the leaf of its first address. -/
theorem good_within {L : List Pr} {x : Pr} (h : goodL L x = true) : psane x.p = true ∧ ∃ y, leafO L x.p.a = some y ∧ pcov y.p x.p = true ∧ y.v = x.v := by
  unfold goodL at h
  simp only [Bool.and_eq_true, beq_iff_eq, Bool.not_eq_true'] at h
  obtain ⟨h1, h2, h3⟩ := h
  obtain ⟨z, hz⟩ := Option.isSome_iff_exists.1 h1
  have hm : z ∈ L.filter fun y => pcov y.p x.p := List.mem_of_getLast? hz
  have hs := ((pcov_iff _ _).1 (List.mem_filter.1 hm).2).2.1
  have hb := psane_bd hs
  rw [hz] at h2
  refine ⟨hs, ⟨wideP L x.p.a 0, z.v⟩, ?_, ?_, h2⟩
  · rw [leaf_eq, ← gov_con h3 (con_first _ hs), hz]
    rfl
  · show pcov (wideP L x.p.a 0) x.p = true
    obtain ⟨s1, s2, s3, s4⟩ := wide_spec L x.p.a 0
    have hwb := wide_bd L x.p.a 0
    have hle : wideM L x.p.a 0 ≤ x.p.n := by
      rcases Int.lt_or_le x.p.n (wideM L x.p.a 0) with e | e
      · exfalso
        have hcl := clamp_id x.p.a.v6 0 (Int.le_refl _) (by omega)
        have := s4 x.p.n (by omega) e
        rw [pof_self hs, h3] at this
        cases this
      · exact e
    have := cov_pofI (a := x.p.a) hwb.1 hle hb.2
    rwa [pof_self hs] at this
/-- So does each part of it. -/
theorem good_part {L : List Pr} {p q : Pf} {v : Int} (h : goodL L ⟨p, v⟩ = true) (hc : pcov p q = true) : goodL L ⟨q, v⟩ = true := by
  unfold goodL at h ⊢
  simp only [Bool.and_eq_true, beq_iff_eq, Bool.not_eq_true'] at h ⊢
  obtain ⟨h1, h2, h3⟩ := h
  have hq := ((pcov_iff _ _).1 hc).2.1
  have e1 := ins_anti hc h3
  have e2 : govL L q = govL L p := by rw [gov_con e1 (con_first _ hq), gov_con h3 (pcov_con hc)]
  rw [e2]
  exact ⟨h1, h2, e1⟩
/-- With more routes blocks are never wider. -/
theorem ins_put {L : List Pr} {q : Pf} {v : Int} (hL : Srt L) (hq : psane q = true) {p : Pf} : insL (putL q v L) p = (insL L p || pins p q) := by
  rw [Bool.eq_iff_iff, Bool.or_eq_true]
  constructor
  · intro h
    obtain ⟨x, hx, hc⟩ := List.any_eq_true.1 h
    rcases (mem_put hL hq x).1 hx with rfl | ⟨h1, h2⟩
    · exact .inr hc
    · exact .inl (List.any_eq_true.2 ⟨x, h1, hc⟩)
  · rintro (h | h)
    · obtain ⟨x, hx, hc⟩ := List.any_eq_true.1 h
      by_cases e : x.p = q
      · exact List.any_eq_true.2 ⟨⟨q, v⟩, (mem_put hL hq _).2 (.inl rfl), by show pins p q = true; rw [← e]; exact hc⟩
      · exact List.any_eq_true.2 ⟨x, (mem_put hL hq _).2 (.inr ⟨hx, e⟩), hc⟩
    · exact List.any_eq_true.2 ⟨⟨q, v⟩, (mem_put hL hq _).2 (.inl rfl), h⟩
theorem wide_more {L : List Pr} {q : Pf} {v : Int} (hL : Srt L) (hq : psane q = true) (a : Ad) : pcov (wideP L a 0) (wideP (putL q v L) a 0) = true := by
  obtain ⟨s1, s2, s3, s4⟩ := wide_spec L a 0
  obtain ⟨t1, t2, t3, t4⟩ := wide_spec (putL q v L) a 0
  have hb := wide_bd L a 0
  have hb2 := wide_bd (putL q v L) a 0
  refine cov_pofI hb.1 ?_ hb2.2
  rcases Int.lt_or_le (wideM (putL q v L) a 0) (wideM L a 0) with e | e
  · exfalso
    have := s4 _ t1 e
    unfold wideP at t3
    rw [ins_put hL hq, this] at t3
    cases t3
  · exact e
theorem gov_put_apart {L : List Pr} {q : Pf} {v : Int} (hL : Srt L) (hq : psane q = true) {p : Pf} (h : pcov q p = false) : govL (putL q v L) p = govL L p := by
  unfold govL
  have e : (putL q v L).filter (fun x => pcov x.p p) = L.filter (fun x => pcov x.p p) := by
    refine srt_ext (filter_srt (put_srt hL hq) _) (filter_srt hL _) fun x => ?_
    rw [List.mem_filter, List.mem_filter, mem_put hL hq]
    constructor
    · rintro ⟨rfl | ⟨h1, h2⟩, h3⟩
      · exfalso
        have h4 : pcov q p = true := h3
        rw [h] at h4
        cases h4
      · exact ⟨h1, h3⟩
    · rintro ⟨h1, h3⟩
      refine ⟨.inr ⟨h1, fun e => ?_⟩, h3⟩
      rw [e, h] at h3
      cases h3
  rw [e]
theorem leaf_apart {L : List Pr} {q : Pf} {v : Int} (hL : Srt L) (hq : psane q = true) {a : Ad} (h : papa (wideP L a 0) q = true) : wideP (putL q v L) a 0 = wideP L a 0 ∧ leafO (putL q v L) a = leafO L a := by
  rw [apa_eq (wide_sane _ _ _) hq] at h
  simp only [Bool.and_eq_true, Bool.not_eq_true'] at h
  obtain ⟨s1, s2, s3, s4⟩ := wide_spec L a 0
  have e : wideM (putL q v L) a 0 = wideM L a 0 := by
    refine wide_eq s1 s2 ?_ fun j h1 h2 => ?_
    · have : insL (putL q v L) (wideP L a 0) = false := by
        rw [ins_put hL hq, s3]
        unfold pins
        rw [h.1]
        rfl
      exact this
    · rw [ins_put hL hq, s4 j h1 h2]
      rfl
  have e1 : wideP (putL q v L) a 0 = wideP L a 0 := by unfold wideP; rw [e]
  refine ⟨e1, ?_⟩
  unfold leafO
  rw [e1, gov_put_apart hL hq h.2]
/-- More digits at least. -/
theorem wide_le {L : List Pr} {a : Ad} {n m : Int} (h : n ≤ m) : pcov (wideP L a n) (wideP L a m) = true := by
  obtain ⟨s1, s2, s3, s4⟩ := wide_spec L a n
  obtain ⟨t1, t2, t3, t4⟩ := wide_spec L a m
  have hb := wide_bd L a n
  have hb2 := wide_bd L a m
  refine cov_pofI hb.1 ?_ hb2.2
  rcases Int.lt_or_le (wideM L a m) (wideM L a n) with e | e
  · exfalso
    have hcc : clamp a.v6 n ≤ clamp a.v6 m := by unfold clamp; omega
    have := s4 _ (by omega) e
    unfold wideP at t3
    rw [t3] at this
    cases this
  · exact e
theorem wide_128 (L : List Pr) (a : Ad) : wideP L a 128 = pof a 128 := by
  have hw := wid_bd a.v6
  have hc : clamp a.v6 128 = wid a.v6 := by unfold clamp; omega
  have hs := wide_spec L a 128
  have e : wideM L a 128 = wid a.v6 := by have := hs.1; have := hs.2.1; omega
  unfold wideP
  rw [e, pof_128']
theorem wide_again (L : List Pr) (a : Ad) (n : Int) : wideP L a (wideP L a n).n = wideP L a n := by
  obtain ⟨s1, s2, s3, s4⟩ := wide_spec L a n
  have hb := wide_bd L a n
  rw [wide_n]
  have e : wideM L a (wideM L a n) = wideM L a n := by
    have hc : clamp a.v6 (wideM L a n) = wideM L a n := clamp_id _ _ hb.1 hb.2
    exact wide_eq (by omega) s2 s3 fun j h1 h2 => by omega
  unfold wideP
  rw [e]
theorem wide_least (L : List Pr) (a : Ad) (n : Int) : min n (pof a 128).n ≤ (wideP L a n).n := by
  have hw := wid_bd a.v6
  have hs := wide_spec L a n
  rw [wide_n, pof_128', pof_n a _ (by omega) (Int.le_refl _)]
  have : min n (wid a.v6) ≤ clamp a.v6 n := by unfold clamp; omega
  omega

end Go.Proofs.YtcbfppangiopeaaGreat

namespace Go.Proofs.YtcbfppangiopeaaGreat
open Go.RowKit Go.Maps
set_option maxRecDepth 100000

theorem wideN_step {L : List Pr} {a : Ad} {K j : Nat} {c : Int} (hj : j < K) (e : wideN L a K c = wideN L a (K - j) (c + j)) (hi : insL L (pof a (c + j)) = true) : wideN L a K c = wideN L a (K - (j + 1)) (c + ((j + 1 : Nat) : Int)) := by
  obtain ⟨k, hk⟩ : ∃ k, K - j = k + 1 := ⟨K - j - 1, by omega⟩
  rw [e, hk, wideN, if_pos hi, show K - (j + 1) = k from by omega, show c + ((j + 1 : Nat) : Int) = c + j + 1 from by omega]
theorem wideN_stop {L : List Pr} {a : Ad} {K j : Nat} {c : Int} (hj : j < K) (e : wideN L a K c = wideN L a (K - j) (c + j)) (hi : insL L (pof a (c + j)) = false) : wideN L a K c = c + j := by
  obtain ⟨k, hk⟩ : ∃ k, K - j = k + 1 := ⟨K - j - 1, by omega⟩
  rw [e, hk, wideN, if_neg (by rw [hi]; decide)]
theorem wideN_end {L : List Pr} {a : Ad} {K j : Nat} {c : Int} (hj : j = K) (e : wideN L a K c = wideN L a (K - j) (c + j)) : wideN L a K c = c + K := by
  subst hj
  rw [e, Nat.sub_self]
  rfl

section
variable {w : World} {r : Nat} {S : Nat → Prop} {n h : Int} {L : List Pr} {most : Nat}
theorem rib_ins (H : RibS w r S n h L most) (p : Pf) : Calls Tryz.prog 25 #[.pointer (some ⟨r, 0, none⟩), .agg #[.int .u64 (u p.a.hi), .int .u64 (u p.a.lo), .bool p.a.v6, .int .i64 p.n]] w fun e w' => e = .returned (.bool (insL L p)) ∧ Below w.heap.size w w' := rib_inside H p
end

end Go.Proofs.YtcbfppangiopeaaGreat

namespace Go.Proofs.YtcbfppangiopeaaGreat
open Go.RowKit Go.Maps
set_option maxRecDepth 100000

section
variable {w : World} {r : Nat} {S : Nat → Prop} {n h : Int} {L : List Pr} {most : Nat}
end

end Go.Proofs.YtcbfppangiopeaaGreat

namespace Go.Proofs.YtcbfppangiopeaaGreat
open Go.RowKit Go.Maps
set_option maxRecDepth 100000

/-- Routes that lie in memory, as a slice says. -/
def RdQ (w : World) (A : Option Addr) (ls : List Pr) : Prop :=
  ls ≠ [] → ∃ g off, A = some ⟨g, off, none⟩ ∧ g < w.heap.size ∧ ∀ i, (h : i < ls.length) → w.cell? ⟨g, off + i * 5, none⟩ = some (.int .u64 (u ls[i].p.a.hi)) ∧ w.cell? ⟨g, off + i * 5 + 1, none⟩ = some (.int .u64 (u ls[i].p.a.lo)) ∧ w.cell? ⟨g, off + i * 5 + 2, none⟩ = some (.bool ls[i].p.a.v6) ∧ w.cell? ⟨g, off + i * 5 + 3, none⟩ = some (.int .i64 ls[i].p.n) ∧ w.cell? ⟨g, off + i * 5 + 4, none⟩ = some (.int .i64 ls[i].v)
theorem RdQ.keep {B : Nat} {w w' : World} {A : Option Addr} {ls : List Pr} (h : RdQ w A ls) (hb : Below B w w') (hB : w.heap.size ≤ B) : RdQ w' A ls := fun hn => by
  obtain ⟨g, off, e, hg, hc⟩ := h hn
  have hg' : g < B := Nat.lt_of_lt_of_le hg hB
  refine ⟨g, off, e, Nat.lt_of_lt_of_le hg hb.size, fun i hi => ?_⟩
  obtain ⟨c0, c1, c2, c3, c4⟩ := hc i hi
  exact ⟨(hb.cell (p := ⟨g, off + i * 5, none⟩) hg').trans c0, (hb.cell (p := ⟨g, off + i * 5 + 1, none⟩) hg').trans c1, (hb.cell (p := ⟨g, off + i * 5 + 2, none⟩) hg').trans c2, (hb.cell (p := ⟨g, off + i * 5 + 3, none⟩) hg').trans c3, (hb.cell (p := ⟨g, off + i * 5 + 4, none⟩) hg').trans c4⟩
/-- What is there behind the first k routes; room for 200. -/
def fills : List Pr → List Pr × Nat
  | [] => ([], 2)
  | x :: r => (addQ 200 200 (fills r).1 x.p x.v, addM 200 200 (fills r).1 x.p x.v (fills r).2)
def fillK (ls : List Pr) (k : Nat) : List Pr × Nat := fills (ls.take k).reverse
theorem fillK_succ (ls : List Pr) (k : Nat) (hk : k < ls.length) : fillK ls (k + 1) = (addQ 200 200 (fillK ls k).1 ls[k].p ls[k].v, addM 200 200 (fillK ls k).1 ls[k].p ls[k].v (fillK ls k).2) := by
  unfold fillK
  rw [List.take_succ_eq_append_getElem hk, List.reverse_append]
  rfl
def FillPost (w : World) (ls : List Pr) (e : Ending) (w' : World) : Prop := ∃ r S, e = .returned (.pointer (some ⟨r, 0, none⟩)) ∧ RibS w' r S 200 200 (fillK ls ls.length).1 (fillK ls ls.length).2 ∧ (fillK ls ls.length).2 ≤ 2 + 128 * ls.length ∧ (∀ b, S b → w.heap.size ≤ b) ∧ Below w.heap.size w w'

end Go.Proofs.YtcbfppangiopeaaGreat

namespace Go.Proofs.YtcbfppangiopeaaGreat
open Go.RowKit

set_option maxHeartbeats 400000 in
theorem rpcov_any (p q : Pf) (w : World) :
    Calls Tryz.prog 80 #[.agg #[.int .u64 (u p.a.hi), .int .u64 (u p.a.lo), .bool p.a.v6, .int .i64 p.n], .agg #[.int .u64 (u q.a.hi), .int .u64 (u q.a.lo), .bool q.a.v6, .int .i64 q.n]] w fun e w' => e = .returned (.bool (pcov p q)) ∧ Below w.heap.size w w' := by
  cases hs : psane q
  · have hr := Lib.hid (show pcov p q = false by unfold pcov; rw [hs]; rfl)
    have Hs := Lib.hid hs
    clear hs
    go_enter Tryz.func80, Tryz.ntmps80
    go_wp2_with fail
    refine (rpsane_any q _).mono ?_
    rintro e w1 ⟨rfl, hw1⟩
    have zw1 := hw1.size
    have bw1 := below_of (w := w) (by go_grown) hw1
    try simp at zw1
    rw [Hs.out]
    go_wp2
    go_ret
    exact ⟨ret_bool hr.out.symm, bw1⟩
  · by_cases hn : p.n ≤ q.n
    · have hn' : decide (p.n ≤ q.n) = true := by simp [hn]
      have hr := Lib.hid (show pcov p q = pcon p q.a by unfold pcov; rw [hs, hn']; rfl)
      have Hs := Lib.hid hs
      clear hs hn
      go_enter Tryz.func80, Tryz.ntmps80
      go_wp2_with fail
      refine (rpsane_any q _).mono ?_
      rintro e w1 ⟨rfl, hw1⟩
      have zw1 := hw1.size
      have bw1 := below_of (w := w) (by go_grown) hw1
      try simp at zw1
      rw [Hs.out]
      obtain ⟨pa, pb, pc, pg, pd, pe, pf, ph, pz⟩ := cells4 (b := w.heap.size) hw1 (by go_size) (by go_simp <;> rfl) (by go_simp <;> rfl) (by go_simp <;> rfl) (by go_simp <;> rfl) (by go_simp <;> rfl) (by go_simp <;> rfl) (by go_simp <;> rfl) (by go_simp <;> rfl)
      obtain ⟨qa, qb, qc, qg, qd, qe, qf, qh, qz⟩ := cells4 (b := w.heap.size + 1) hw1 (by go_size) (by go_simp <;> rfl) (by go_simp <;> rfl) (by go_simp <;> rfl) (by go_simp <;> rfl) (by go_simp <;> rfl) (by go_simp <;> rfl) (by go_simp <;> rfl) (by go_simp <;> rfl)
      clear hw1
      go_wp2_with fail
      refine (rpcon_any p q.a _).mono ?_
      rintro e w2 ⟨rfl, hw2⟩
      have zw2 := hw2.size
      have bw2 := below_of (w := w) (by go_grown) hw2
      try simp at zw2
      go_wp2
      go_ret
      exact ⟨ret_bool hr.out.symm, bw2⟩
    · have hn' : decide (p.n ≤ q.n) = false := by simp [hn]
      have hr := Lib.hid (show pcov p q = false by unfold pcov; rw [hs, hn']; rfl)
      have Hs := Lib.hid hs
      clear hs hn
      go_enter Tryz.func80, Tryz.ntmps80
      go_wp2_with fail
      refine (rpsane_any q _).mono ?_
      rintro e w1 ⟨rfl, hw1⟩
      have zw1 := hw1.size
      have bw1 := below_of (w := w) (by go_grown) hw1
      try simp at zw1
      rw [Hs.out]
      obtain ⟨pa, pb, pc, pg, pd, pe, pf, ph, pz⟩ := cells4 (b := w.heap.size) hw1 (by go_size) (by go_simp <;> rfl) (by go_simp <;> rfl) (by go_simp <;> rfl) (by go_simp <;> rfl) (by go_simp <;> rfl) (by go_simp <;> rfl) (by go_simp <;> rfl) (by go_simp <;> rfl)
      obtain ⟨qa, qb, qc, qg, qd, qe, qf, qh, qz⟩ := cells4 (b := w.heap.size + 1) hw1 (by go_size) (by go_simp <;> rfl) (by go_simp <;> rfl) (by go_simp <;> rfl) (by go_simp <;> rfl) (by go_simp <;> rfl) (by go_simp <;> rfl) (by go_simp <;> rfl) (by go_simp <;> rfl)
      clear hw1
      go_wp2
      go_ret
      exact ⟨ret_bool hr.out.symm, bw1⟩

set_option maxHeartbeats 400000 in
theorem rpins_any (p q : Pf) (w : World) :
    Calls Tryz.prog 82 #[.agg #[.int .u64 (u p.a.hi), .int .u64 (u p.a.lo), .bool p.a.v6, .int .i64 p.n], .agg #[.int .u64 (u q.a.hi), .int .u64 (u q.a.lo), .bool q.a.v6, .int .i64 q.n]] w fun e w' => e = .returned (.bool (pins p q)) ∧ Below w.heap.size w w' := by
  cases hs : pcov p q
  · have hr := Lib.hid (show pins p q = false by unfold pins; rw [hs]; rfl)
    have Hs := Lib.hid hs
    clear hs
    go_enter Tryz.func82, Tryz.ntmps82
    go_wp2_with fail
    refine (rpcov_any p q _).mono ?_
    rintro e w1 ⟨rfl, hw1⟩
    have zw1 := hw1.size
    have bw1 := below_of (w := w) (by go_grown) hw1
    try simp at zw1
    rw [Hs.out]
    go_wp2
    go_ret
    exact ⟨ret_bool hr.out.symm, bw1⟩
  · have hr := Lib.hid (show pins p q = decide (p.n < q.n) by unfold pins; rw [hs]; rfl)
    have Hs := Lib.hid hs
    clear hs
    go_enter Tryz.func82, Tryz.ntmps82
    go_wp2_with fail
    refine (rpcov_any p q _).mono ?_
    rintro e w1 ⟨rfl, hw1⟩
    have zw1 := hw1.size
    have bw1 := below_of (w := w) (by go_grown) hw1
    try simp at zw1
    rw [Hs.out]
    obtain ⟨pa, pb, pc, pg, pd, pe, pf, ph, pz⟩ := cells4 (b := w.heap.size) hw1 (by go_size) (by go_simp <;> rfl) (by go_simp <;> rfl) (by go_simp <;> rfl) (by go_simp <;> rfl) (by go_simp <;> rfl) (by go_simp <;> rfl) (by go_simp <;> rfl) (by go_simp <;> rfl)
    obtain ⟨qa, qb, qc, qg, qd, qe, qf, qh, qz⟩ := cells4 (b := w.heap.size + 1) hw1 (by go_size) (by go_simp <;> rfl) (by go_simp <;> rfl) (by go_simp <;> rfl) (by go_simp <;> rfl) (by go_simp <;> rfl) (by go_simp <;> rfl) (by go_simp <;> rfl) (by go_simp <;> rfl)
    clear hw1
    go_wp2
    go_ret
    exact ⟨ret_bool hr.out.symm, bw1⟩

end Go.Proofs.YtcbfppangiopeaaGreat

namespace Go.Proofs.YtcbfppangiopeaaGreat
open Go.RowKit Go.Maps
set_option maxRecDepth 100000

/-- A tree of the document's answer lies in a block. -/
def KBox (w : World) (b : Nat) (A : Option Addr) (n c : Nat) (most : Int) : Prop := w.cell? ⟨b, 0, none⟩ = some (.slice A n c) ∧ w.cell? ⟨b, 1, none⟩ = some (.int .i64 most) ∧ b < w.heap.size
theorem KBox.keep {w w' : World} {b n c : Nat} {A : Option Addr} {most : Int} (h : KBox w b A n c most) (hb : Below w.heap.size w w') : KBox w' b A n c most := by
  obtain ⟨h0, h1, hz⟩ := h
  exact ⟨(hb.cell hz).trans h0, (hb.cell hz).trans h1, Nat.lt_of_lt_of_le hz hb.size⟩
/-- A row that was made lies as a slice says. -/
theorem own_rdq {E : TypeId} {w : World} {base : Nat} {v : Value} {l : List Pr} (h : w.ownsRow base E 5 v l.length (prv l)) : ∃ A c, v = .slice A l.length c ∧ RdQ w A l := by
  obtain ⟨A, c, rfl, -⟩ := own_val h
  refine ⟨A, c, rfl, fun hn => ?_⟩
  have hpos : 0 < l.length := by
    rcases Nat.eq_zero_or_pos l.length with h0 | h0
    · exact absurd (List.eq_nil_of_length_eq_zero h0) hn
    · exact h0
  obtain ⟨g, cg, eg, -, hg, -⟩ := row_cell h rfl hpos
  simp only [Value.slice.injEq, true_and] at eg
  obtain ⟨rfl, rfl⟩ := eg
  refine ⟨g, 0, rfl, hg, fun i hi => ?_⟩
  obtain ⟨g', cg', eg', -, -, hcc⟩ := row_cell h rfl hi
  simp only [Value.slice.injEq, true_and, Option.some.injEq, Addr.mk.injEq, and_true] at eg'
  obtain ⟨rfl, -⟩ := eg'
  have c0 : w.cell? ⟨g, i * 5, none⟩ = some (.int .u64 (u l[i].p.a.hi)) := hcc 0 (by omega)
  have c1 : w.cell? ⟨g, i * 5 + 1, none⟩ = some (.int .u64 (u l[i].p.a.lo)) := hcc 1 (by omega)
  have c2 : w.cell? ⟨g, i * 5 + 2, none⟩ = some (.bool l[i].p.a.v6) := hcc 2 (by omega)
  have c3 : w.cell? ⟨g, i * 5 + 3, none⟩ = some (.int .i64 l[i].p.n) := hcc 3 (by omega)
  have c4 : w.cell? ⟨g, i * 5 + 4, none⟩ = some (.int .i64 l[i].v) := hcc 4 (by omega)
  simp only [Nat.zero_add]
  exact ⟨c0, c1, c2, c3, c4⟩

theorem filt_yes {f : Pr → Bool} {L : List Pr} {k : Nat} (h : k < L.length) {y : Pr} (hy : L[k] = y) (hf : f y = true) : (L.take (k + 1)).filter f = (L.take k).filter f ++ [y] := by
  rw [List.take_succ_eq_append_getElem h, List.filter_append, hy, List.filter_cons_of_pos hf, List.filter_nil]
theorem filt_no {f : Pr → Bool} {L : List Pr} {k : Nat} (h : k < L.length) {y : Pr} (hy : L[k] = y) (hf : f y = false) : (L.take (k + 1)).filter f = (L.take k).filter f := by
  rw [List.take_succ_eq_append_getElem h, List.filter_append, hy, List.filter_cons_of_neg (by rw [hf]; decide), List.filter_nil, List.append_nil]
section
variable {w : World} {A : Option Addr} {c : Nat} {L : List Pr}
set_option maxHeartbeats 2000000 in
theorem kins_any (hr : RdQ w A L) (hl : L.length ≤ 1000000) (most : Int) (p : Pf) : Calls Tryz.prog 59 #[.agg #[.slice A L.length c, .int .i64 most], .agg #[.int .u64 (u p.a.hi), .int .u64 (u p.a.lo), .bool p.a.v6, .int .i64 p.n]] w fun e w' => e = .returned (.bool (insL L p)) ∧ Below w.heap.size w w' := by
  have HRD := Lib.hid hr
  clear hr
  obtain ⟨I, hI⟩ : ∃ I, insL L p = I := ⟨_, rfl⟩
  rw [hI]
  have HI := Lib.hid hI
  clear hI
  -- kedge/kedgeref05.Inside: the function, $2: the contract's name, $3: its arguments, $4: the test as a function, $5: order of the call's function
  go_enter Tryz.func59, Tryz.ntmps59
  go_wp2_with fail
  generalize hW : World.alloc _ _ = W
  have hz : w.heap.size ≤ W.heap.size := by subst hW; go_size
  have hB : Below w.heap.size w W := by subst hW; go_grown
  have hK : KBox W w.heap.size A L.length c most := by subst hW; exact (by refine ⟨?_, ?_, ?_⟩ <;> first | (go_simp; done) | (go_simp <;> rfl) | go_size)
  have hP : PBox W (w.heap.size + 1) p := by subst hW; exact ⟨by go_simp <;> rfl, by go_simp <;> rfl, by go_simp <;> rfl, by go_simp <;> rfl, by go_simp <;> rfl, by go_simp <;> rfl, by go_simp <;> rfl, by go_simp <;> rfl, by go_size⟩
  have HK := Lib.hid hK
  have HP := Lib.hid hP
  have z2 : w.heap.size + 1 < W.heap.size := hP.2.2.2.2.2.2.2.2
  clear hW hK hP
  obtain ⟨W0, rfl⟩ : ∃ W0, W0 = W := ⟨_, rfl⟩
  go_loopw [5] (fun i wr => ∃ k : Nat, k ≤ L.length ∧ i = .int .i64 k ∧ insL (L.take k) p = false ∧ Below W0.heap.size W0 wr) (fun i _ => L.length - (RowKit.intOf i).toNat)
  case atStart => exact ⟨0, Nat.zero_le _, rfl, rfl, Below.refl _ _⟩
  case round =>
    obtain ⟨k, hk, rfl, hf, hBj⟩ := hrel
    have hB := hB.trans (hBj.mono hz)
    have HF := Lib.hid hf
    obtain ⟨t0, t1, tz⟩ := id (HK.out.keep hBj)
    obtain ⟨pa, pb, pc, pg, -, -, -, -, pz⟩ := id (HP.out.keep hBj)
    clear hf HK HP
    by_cases hlt : k < L.length
    · -- HRD: the fact RdQ at w, L: the list; k, hlt, hB : Below w.heap.size w wr. The cells of the k-th in wr: d0 .. d4
      obtain ⟨g, off, rfl, hg, hc⟩ := HRD.out (by intro e; rw [e] at hlt; cases hlt)
      obtain ⟨c0, c1, c2, c3, c4⟩ := hc k hlt
      have d0 := (hB.cell (p := ⟨g, off + k * 5, none⟩) hg).trans c0
      have d1 := (hB.cell (p := ⟨g, off + k * 5 + 1, none⟩) hg).trans c1
      have d2 := (hB.cell (p := ⟨g, off + k * 5 + 2, none⟩) hg).trans c2
      have d3 := (hB.cell (p := ⟨g, off + k * 5 + 3, none⟩) hg).trans c3
      have d4 := (hB.cell (p := ⟨g, off + k * 5 + 4, none⟩) hg).trans c4
      have gz : g < wr.heap.size := Nat.lt_of_lt_of_le hg hB.size
      clear c0 c1 c2 c3 c4 hc
      have hs : insL (L.take (k + 1)) p = pins p L[k].p := by
        unfold insL
        rw [List.take_succ_eq_append_getElem hlt, List.any_append]
        have := HF.out
        unfold insL at this
        rw [this]
        simp
      have hin : pins p L[k].p = true → I = true := fun h => by rw [← HI.out]; exact List.any_eq_true.2 ⟨L[k], List.getElem_mem hlt, h⟩
      obtain ⟨y, hy⟩ : ∃ y, L[k] = y := ⟨_, rfl⟩
      rw [hy] at d0 d1 d2 d3 d4 hs hin
      have HS := Lib.hid hs
      have HIN := Lib.hid hin
      have k1 : (k : Int) < (L.length : Int) := by omega
      have k2 : (k : Int) + 1 ≤ 2000000 := by omega
      have kt : decide ((k : Int) < (L.length : Int)) = true := decide_eq_true k1
      clear hs hy hin
      obtain ⟨W, rfl⟩ : ∃ W, W = wr := ⟨_, rfl⟩
      have Ld0 := fun x : Later W.heap.size W => (x.cell (p := ⟨g, off + k * 5, none⟩) gz).trans d0
      have Ld1 := fun x : Later W.heap.size W => (x.cell (p := ⟨g, off + k * 5 + 1, none⟩) gz).trans d1
      have Ld2 := fun x : Later W.heap.size W => (x.cell (p := ⟨g, off + k * 5 + 2, none⟩) gz).trans d2
      have Ld3 := fun x : Later W.heap.size W => (x.cell (p := ⟨g, off + k * 5 + 3, none⟩) gz).trans d3
      have Ld4 := fun x : Later W.heap.size W => (x.cell (p := ⟨g, off + k * 5 + 4, none⟩) gz).trans d4
      have Lt0 := fun x : Later W.heap.size W => (x.cell tz).trans t0
      have Lpa := fun x : Later W.heap.size W => (x.cell pz).trans pa
      have Lpb := fun x : Later W.heap.size W => (x.cell pz).trans pb
      have Lpc := fun x : Later W.heap.size W => (x.cell pz).trans pc
      have Lpg := fun x : Later W.heap.size W => (x.cell pz).trans pg
      go_wp2_with fail
      refine region_later W.heap.size (by kernel_rfl) (by kernel_rfl) ?_
      repeat (go_big_quiet_step ((go_at_call 82; exact later_of (Nat.le_refl _) (rpins_any p y.p _))))
      refine wpQuiet_nil ?_
      intro x
      have hx := x.below
      generalize x.at = V at hx ⊢
      clear x Ld0 Ld1 Ld2 Ld3 Ld4 Lt0 Lpa Lpb Lpc Lpg d0 d1 d2 d3 d4 t0 t1 pa pb pc pg
      have bV := hBj.trans (hx.mono hBj.size)
      have bV2 := hB.trans (hx.mono hB.size)
      clear hx
      cases hc : pins p y.p
      · have HC := Lib.hid hc
        clear hc
        go_wp2
        go_roundw
        case rel => exact ⟨k + 1, by omega, by go_num, by rw [HS.out]; exact HC.out, bV⟩
        case measure => simp [RowKit.intOf]; omega
      · have HC := Lib.hid hc
        clear hc
        go_wp2
        go_ret
        exact ⟨ret_bool (HIN.out HC.out).symm, bV2⟩
    · obtain rfl : k = L.length := by omega
      have e := HF.out
      rw [List.take_length, HI.out] at e
      have HE := Lib.hid e
      clear e
      have kt : decide ((L.length : Int) < (L.length : Int)) = false := by simp
      go_wp2
      go_ret
      exact ⟨ret_bool HE.out.symm, hB⟩
/-- A fresh row of pairs of the document's kind. -/
def KPost (w : World) (l : List Pr) (e : Ending) (w' : World) : Prop := ∃ v, e = .returned v ∧ w'.ownsRow w.heap.size 104 5 v l.length (prv l) ∧ Below w.heap.size w w'
set_option maxHeartbeats 2000000 in
theorem kabove_any (hr : RdQ w A L) (hl : L.length ≤ 1000000) (most : Int) (p : Pf) : Calls Tryz.prog 53 #[.agg #[.slice A L.length c, .int .i64 most], .agg #[.int .u64 (u p.a.hi), .int .u64 (u p.a.lo), .bool p.a.v6, .int .i64 p.n]] w (KPost w (L.filter fun x => pcov x.p p)) := by
  -- kedge/kedgeref05.Above: the function, kedge/kedgeref02.Covers: the test's function, rpcov_any y.p p _: its contract, (fun x : Pr => pcov x.p p): the test of y
  have HRD := Lib.hid hr
  clear hr
  -- kedge/kedgeref05.Above: the function, $2: the contract's name, $3: its arguments, $4: the test as a function, $5: order of the call's function
  go_enter Tryz.func53, Tryz.ntmps53
  go_wp2_with fail
  generalize hW : World.alloc _ _ = W
  have hz : w.heap.size ≤ W.heap.size := by subst hW; go_size
  have hB : Below w.heap.size w W := by subst hW; go_grown
  have hK : KBox W w.heap.size A L.length c most := by subst hW; exact (by refine ⟨?_, ?_, ?_⟩ <;> first | (go_simp; done) | (go_simp <;> rfl) | go_size)
  have hP : PBox W (w.heap.size + 1) p := by subst hW; exact ⟨by go_simp <;> rfl, by go_simp <;> rfl, by go_simp <;> rfl, by go_simp <;> rfl, by go_simp <;> rfl, by go_simp <;> rfl, by go_simp <;> rfl, by go_simp <;> rfl, by go_size⟩
  have HK := Lib.hid hK
  have HP := Lib.hid hP
  have z2 : w.heap.size + 1 < W.heap.size := hP.2.2.2.2.2.2.2.2
  clear hW hK hP
  obtain ⟨W0, rfl⟩ : ∃ W0, W0 = W := ⟨_, rfl⟩
  go_loopw [5, 6] (fun o i wr => ∃ k N : Nat, k ≤ L.length ∧ i = .int .i64 k ∧ N = ((L.take k).filter (fun x : Pr => pcov x.p p)).length ∧ wr.ownsRow W0.heap.size 104 5 o N (prv ((L.take k).filter (fun x : Pr => pcov x.p p))) ∧ Below W0.heap.size W0 wr) (fun _ i _ => L.length - (RowKit.intOf i).toNat)
  case atStart => exact ⟨0, 0, Nat.zero_le _, rfl, rfl, World.ownsRow_nil _ _ _ _, Below.refl _ _⟩
  case round =>
    obtain ⟨k, N, hk, rfl, hN, hown, hBj⟩ := hrel
    have hB := hB.trans (hBj.mono hz)
    have HO := Lib.hid hown
    have HN := Lib.hid hN
    have hN9 : N ≤ 1000000 := by
      have h1 := List.length_filter_le (fun x : Pr => pcov x.p p) (L.take k)
      rw [List.length_take] at h1
      omega
    obtain ⟨A2, c2, rfl, -⟩ := own_val hown
    obtain ⟨t0, t1, tz⟩ := id (HK.out.keep hBj)
    obtain ⟨pa, pb, pc, pg, -, -, -, -, pz⟩ := id (HP.out.keep hBj)
    clear hown hN HK HP
    by_cases hlt : k < L.length
    · -- HRD: the fact RdQ at w, L: the list; k, hlt, hB : Below w.heap.size w wr. The cells of the k-th in wr: d0 .. d4
      obtain ⟨g, off, rfl, hg, hc⟩ := HRD.out (by intro e; rw [e] at hlt; cases hlt)
      obtain ⟨c0, c1, c2, c3, c4⟩ := hc k hlt
      have d0 := (hB.cell (p := ⟨g, off + k * 5, none⟩) hg).trans c0
      have d1 := (hB.cell (p := ⟨g, off + k * 5 + 1, none⟩) hg).trans c1
      have d2 := (hB.cell (p := ⟨g, off + k * 5 + 2, none⟩) hg).trans c2
      have d3 := (hB.cell (p := ⟨g, off + k * 5 + 3, none⟩) hg).trans c3
      have d4 := (hB.cell (p := ⟨g, off + k * 5 + 4, none⟩) hg).trans c4
      have gz : g < wr.heap.size := Nat.lt_of_lt_of_le hg hB.size
      clear c0 c1 c2 c3 c4 hc
      obtain ⟨y, hy⟩ : ∃ y, L[k] = y := ⟨_, rfl⟩
      rw [hy] at d0 d1 d2 d3 d4
      have HY := Lib.hid hy
      clear hy
      obtain ⟨W, rfl⟩ : ∃ W, W = wr := ⟨_, rfl⟩
      have Ld0 := fun x : Later W.heap.size W => (x.cell (p := ⟨g, off + k * 5, none⟩) gz).trans d0
      have Ld1 := fun x : Later W.heap.size W => (x.cell (p := ⟨g, off + k * 5 + 1, none⟩) gz).trans d1
      have Ld2 := fun x : Later W.heap.size W => (x.cell (p := ⟨g, off + k * 5 + 2, none⟩) gz).trans d2
      have Ld3 := fun x : Later W.heap.size W => (x.cell (p := ⟨g, off + k * 5 + 3, none⟩) gz).trans d3
      have Ld4 := fun x : Later W.heap.size W => (x.cell (p := ⟨g, off + k * 5 + 4, none⟩) gz).trans d4
      have Lt0 := fun x : Later W.heap.size W => (x.cell tz).trans t0
      have Lpa := fun x : Later W.heap.size W => (x.cell pz).trans pa
      have Lpb := fun x : Later W.heap.size W => (x.cell pz).trans pb
      have Lpc := fun x : Later W.heap.size W => (x.cell pz).trans pc
      have Lpg := fun x : Later W.heap.size W => (x.cell pz).trans pg
      go_wp2_with fail
      refine region_later W.heap.size (by kernel_rfl) (by kernel_rfl) ?_
      repeat (go_big_quiet_step ((go_at_call 80; exact later_of (Nat.le_refl _) (rpcov_any y.p p _))))
      refine wpQuiet_nil ?_
      intro x
      have hx := x.below
      generalize x.at = V at hx ⊢
      clear x Ld0 Ld1 Ld2 Ld3 Ld4 Lt0 Lpa Lpb Lpc Lpg pa pb pc pg t1
      have bV := hBj.trans (hx.mono hBj.size)
      have bV2 := hB.trans (hx.mono hB.size)
      have HOV := Lib.hid (own_fresh HO.out hx)
      clear HO
      have zV := bV.size
      cases hc : pcov y.p p
      · have HC : Hid ((L.take (k + 1)).filter (fun x : Pr => pcov x.p p) = (L.take k).filter (fun x : Pr => pcov x.p p)) := Lib.hid (filt_no hlt HY.out hc)
        clear hc hx d0 d1 d2 d3 d4 t0
        go_wp2
        go_roundw
        case rel => exact ⟨k + 1, N, by omega, by go_num, by rw [HC.out]; exact HN.out, by rw [HC.out]; exact HOV.out, bV⟩
        case measure => simp [RowKit.intOf]; omega
      · have HC : Hid ((L.take (k + 1)).filter (fun x : Pr => pcov x.p p) = (L.take k).filter (fun x : Pr => pcov x.p p) ++ [y]) := Lib.hid (filt_yes hlt HY.out hc)
        clear hc
        replace d0 := (hx.cell (p := ⟨g, off + k * 5, none⟩) gz).trans d0
        replace d1 := (hx.cell (p := ⟨g, off + k * 5 + 1, none⟩) gz).trans d1
        replace d2 := (hx.cell (p := ⟨g, off + k * 5 + 2, none⟩) gz).trans d2
        replace d3 := (hx.cell (p := ⟨g, off + k * 5 + 3, none⟩) gz).trans d3
        replace d4 := (hx.cell (p := ⟨g, off + k * 5 + 4, none⟩) gz).trans d4
        replace t0 := (hx.cell tz).trans t0
        clear hx
        go_wp2_with (
          at_builtin
          refine wpList_five1 five_ref rfl (.tmp 22) (.tmp 28) rfl W0.heap.size _ N ((L.take k).filter (fun x : Pr => pcov x.p p)) HN.out (by rfl) (HOV.out.alloc _) V.heap.size y (by rfl) (heap_alloc_new V _) (by omega) (by simp; omega) ?_
          intro v2 w2 ho2 hb2
          have b2 : Below W0.heap.size W0 w2 := bV.trans (Below.trans (by go_grown) hb2)
          have HO2 := Lib.hid ho2
          obtain ⟨A5, c5, rfl, -⟩ := own_val ho2
          clear ho2 hb2 d0 d1 d2 d3 d4 t0
          )
        go_roundw
        case rel => exact ⟨k + 1, N + 1, by omega, by go_num, by rw [HC.out, List.length_append, ← HN.out]; rfl, by rw [HC.out]; exact HO2.out, b2⟩
        case measure => simp [RowKit.intOf]; omega
    · obtain rfl : k = L.length := by omega
      have e := HO.out
      have hNe := HN.out
      rw [List.take_length] at hNe
      rw [hNe, List.take_length] at e
      have HE := Lib.hid e
      clear e HO HN
      subst hNe
      have kt : decide ((L.length : Int) < (L.length : Int)) = false := by simp
      go_wp2
      go_ret
      exact ⟨_, rfl, own_base HE.out hz, hB⟩
end

end Go.Proofs.YtcbfppangiopeaaGreat

namespace Go.Proofs.YtcbfppangiopeaaGreat
open Go.RowKit Go.Maps
set_option maxRecDepth 100000

theorem common_nn (a b : Ad) : 0 ≤ commonv a b := by
  by_cases hv : a.v6 = b.v6
  · exact (common_facts a b hv).1
  · rw [common_kind a b hv]
    omega
theorem comm_bdd (r : List Pr) (x : Pf) (hr : ∀ y ∈ r, psane y.p = true) (hx : psane x = true) : 0 ≤ comm r x ∧ comm r x ≤ x.n := by
  have h1 := psane_bd hx
  cases r with
  | nil => exact ⟨Int.le_refl _, h1.1⟩
  | cons a r =>
    have h2 := psane_bd (hr a (List.mem_cons_self ..))
    have h3 := common_nn a.p.a x.a
    simp only [comm]
    omega
theorem nodesR_bd (r : List Pr) (h : ∀ y ∈ r, psane y.p = true) : 2 ≤ nodesR r ∧ nodesR r ≤ 2 + 128 * (r.length : Int) := by
  induction r with
  | nil => exact ⟨by decide, by decide⟩
  | cons x r ih =>
    have i := ih (fun y hy => h y (List.mem_cons_of_mem _ hy))
    have c := comm_bdd r x.p (fun y hy => h y (List.mem_cons_of_mem _ hy)) (h x (List.mem_cons_self ..))
    have b := psane_bd (h x (List.mem_cons_self ..))
    have w := (wid_bd x.p.a.v6).2
    simp only [nodesR, List.length_cons]
    omega
theorem nodes_bd (L : List Pr) (h : ∀ y ∈ L, psane y.p = true) : 2 ≤ nodesL L ∧ nodesL L ≤ 2 + 128 * (L.length : Int) := by
  have := nodesR_bd L.reverse (fun y hy => h y (List.mem_reverse.1 hy))
  rwa [List.length_reverse] at this
theorem nodes_zero (L : List Pr) : nodesL (L.take 0) = 2 := rfl
theorem nodes_one (L : List Pr) (h : 0 < L.length) : nodesL (L.take 1) = 2 + L[0].p.n := by
  cases L with
  | nil => cases h
  | cons x r =>
    show 2 + x.p.n - 0 = _
    simp
theorem nodes_succ (L : List Pr) {k j : Nat} (hk : k < L.length) (hj : k = j + 1) : nodesL (L.take (k + 1)) = nodesL (L.take k) + L[k].p.n - min (min L[j].p.n L[k].p.n) (commonv L[j].p.a L[k].p.a) := by
  subst hj
  unfold nodesL
  rw [List.take_succ_eq_append_getElem hk, List.reverse_append]
  have e : (L.take (j + 1)).reverse = L[j] :: (L.take j).reverse := by
    rw [List.take_succ_eq_append_getElem (by omega), List.reverse_append]
    rfl
  show nodesR (L[j + 1] :: (L.take (j + 1)).reverse) = _
  rw [e]
  rfl

section
variable {w : World} {A : Option Addr} {c : Nat} {L : List Pr}
set_option maxHeartbeats 4000000 in
theorem knodes_any (hr : RdQ w A L) (hsn : ∀ x ∈ L, psane x.p = true) (hl : L.length ≤ 100000) (most : Int) : Calls Tryz.prog 57 #[.agg #[.slice A L.length c, .int .i64 most]] w fun e w' => e = .returned (.int .i64 (nodesL L)) ∧ Below w.heap.size w w' := by
  have HRD := Lib.hid hr
  have HSN := Lib.hid hsn
  clear hr hsn
  obtain ⟨R, hR⟩ : ∃ R, nodesL L = R := ⟨_, rfl⟩
  rw [hR]
  have HR := Lib.hid hR
  clear hR
  go_enter Tryz.func57, Tryz.ntmps57
  go_wp2_with fail
  generalize hW : World.alloc _ _ = W
  have hz : w.heap.size ≤ W.heap.size := by subst hW; go_size
  have hB : Below w.heap.size w W := by subst hW; go_grown
  have hK : KBox W w.heap.size A L.length c most := by subst hW; exact (by refine ⟨?_, ?_, ?_⟩ <;> first | (go_simp; done) | (go_simp <;> rfl) | go_size)
  have HK := Lib.hid hK
  have z2 : w.heap.size < W.heap.size := hK.2.2
  clear hW hK
  obtain ⟨W0, rfl⟩ : ∃ W0, W0 = W := ⟨_, rfl⟩
  go_loopw [3, 4] (fun v i wr => ∃ k : Nat, k ≤ L.length ∧ i = .int .i64 k ∧ v = .int .i64 (nodesL (L.take k)) ∧ Below W0.heap.size W0 wr) (fun _ i _ => L.length - (RowKit.intOf i).toNat)
  case atStart => exact ⟨0, Nat.zero_le _, rfl, rfl, Below.refl _ _⟩
  case round =>
    obtain ⟨k, hk, rfl, rfl, hBj⟩ := hrel
    have hB := hB.trans (hBj.mono hz)
    obtain ⟨t0, t1, tz⟩ := id (HK.out.keep hBj)
    clear HK
    by_cases hlt : k < L.length
    · -- as rdq5, but all the cells' facts stay (hc)
      obtain ⟨g, off, rfl, hg, hc⟩ := HRD.out (by intro e; rw [e] at hlt; cases hlt)
      obtain ⟨c0, c1, c2, c3, c4⟩ := hc k hlt
      have d0 := (hB.cell (p := ⟨g, off + k * 5, none⟩) hg).trans c0
      have d1 := (hB.cell (p := ⟨g, off + k * 5 + 1, none⟩) hg).trans c1
      have d2 := (hB.cell (p := ⟨g, off + k * 5 + 2, none⟩) hg).trans c2
      have d3 := (hB.cell (p := ⟨g, off + k * 5 + 3, none⟩) hg).trans c3
      have d4 := (hB.cell (p := ⟨g, off + k * 5 + 4, none⟩) hg).trans c4
      have gz : g < wr.heap.size := Nat.lt_of_lt_of_le hg hB.size
      have HC := Lib.hid hc
      clear c0 c1 c2 c3 c4 hc
      have hnb := nodes_bd (L.take k) (fun y hy => HSN.out y (List.mem_of_mem_take hy))
      have hyb := psane_bd (HSN.out L[k] (List.getElem_mem hlt))
      have hyw := (wid_bd L[k].p.a.v6).2
      rw [List.length_take] at hnb
      have hxx : 0 ≤ L[k].p.n ∧ L[k].p.n ≤ 128 := by omega
      have hn1 := @nodes_one L
      have hn2 := fun j => @nodes_succ L k j hlt
      have hn3 : 2 ≤ nodesL (L.take k) ∧ nodesL (L.take k) ≤ 20000000 := by omega
      obtain ⟨y, hy⟩ : ∃ y, L[k] = y := ⟨_, rfl⟩
      obtain ⟨n0, hn0⟩ : ∃ n0, nodesL (L.take k) = n0 := ⟨_, rfl⟩
      rw [hy] at d0 d1 d2 d3 d4 hn2 hxx
      rw [hn0] at hn2 hn3 ⊢
      have HN0 := Lib.hid hn0
      have HY := Lib.hid hy
      clear hyb hyw hnb hn0 hy
      rcases Nat.eq_zero_or_pos k with hk0 | hk0
      · subst hk0
        have hn4 : nodesL (L.take (0 + 1)) = n0 + y.p.n := by
          have h1 := hn1 hlt
          rw [HY.out] at h1
          rw [← HN0.out]
          exact h1
        have HN4 := Lib.hid hn4
        clear hn1 hn2 hn4 HN0
        go_wp2
        go_roundw
        case rel => exact ⟨0 + 1, by omega, by go_num, by rw [HN4.out], hBj⟩
        case measure => simp [RowKit.intOf]; omega
      · obtain ⟨j, hj⟩ : ∃ j, k = j + 1 := ⟨k - 1, by omega⟩
        have hjl : j < L.length := by omega
        obtain ⟨f0, f1, f2, f3, f4⟩ := HC.out j hjl
        replace f0 := (hB.cell (p := ⟨g, off + j * 5, none⟩) hg).trans f0
        replace f1 := (hB.cell (p := ⟨g, off + j * 5 + 1, none⟩) hg).trans f1
        replace f2 := (hB.cell (p := ⟨g, off + j * 5 + 2, none⟩) hg).trans f2
        replace f3 := (hB.cell (p := ⟨g, off + j * 5 + 3, none⟩) hg).trans f3
        have hn5 := hn2 j hj
        have hzb := psane_bd (HSN.out L[j] (List.getElem_mem hjl))
        have hzw := (wid_bd L[j].p.a.v6).2
        have hzz : 0 ≤ L[j].p.n ∧ L[j].p.n ≤ 128 := by omega
        obtain ⟨z, hz'⟩ : ∃ z, L[j] = z := ⟨_, rfl⟩
        rw [hz'] at f0 f1 f2 f3 hn5 hzz
        have hcn := common_nn z.p.a y.p.a
        have cc := refCommon_any z.p.a y.p.a
        obtain ⟨cm, hcm⟩ : ∃ cm, commonv z.p.a y.p.a = cm := ⟨_, rfl⟩
        rw [hcm] at hcn cc hn5
        have CC := Lib.hid cc
        have HN5 := Lib.hid hn5
        have hkj : (k : Int) - 1 = (j : Int) := by omega
        have kt : decide (0 < (k : Int)) = true := by simp; omega
        have HKJ := Lib.hid hj
        clear hn1 hn2 hn5 hzb hzw hz' hcm cc f4 HC HN0 HSN HY hj
        go_upto_region 8 with fail
        generalize hW : World.alloc _ _ = W
        have hBW : Below wr.heap.size wr W := by subst hW; go_grown
        have hP : PBox W wr.heap.size z.p := by subst hW; exact ⟨by go_simp <;> rfl, by go_simp <;> rfl, by go_simp <;> rfl, by go_simp <;> rfl, by go_simp <;> rfl, by go_simp <;> rfl, by go_simp <;> rfl, by go_simp <;> rfl, by go_size⟩
        have b1 := hBj.trans (hBW.mono hBj.size)
        obtain ⟨pa, pb, pc, pg, -, -, -, -, pz⟩ := id hP
        replace t0 := (hBW.cell tz).trans t0
        replace d0 := (hBW.cell (p := ⟨g, off + k * 5, none⟩) gz).trans d0
        replace d1 := (hBW.cell (p := ⟨g, off + k * 5 + 1, none⟩) gz).trans d1
        replace d2 := (hBW.cell (p := ⟨g, off + k * 5 + 2, none⟩) gz).trans d2
        replace d3 := (hBW.cell (p := ⟨g, off + k * 5 + 3, none⟩) gz).trans d3
        replace d4 := (hBW.cell (p := ⟨g, off + k * 5 + 4, none⟩) gz).trans d4
        replace tz := Nat.lt_of_lt_of_le tz hBW.size
        replace gz := Nat.lt_of_lt_of_le gz hBW.size
        clear hW hP f0 f1 f2 f3 t1 hBW
        have Ld0 := fun x : Later W.heap.size W => (x.cell (p := ⟨g, off + k * 5, none⟩) gz).trans d0
        have Ld1 := fun x : Later W.heap.size W => (x.cell (p := ⟨g, off + k * 5 + 1, none⟩) gz).trans d1
        have Ld2 := fun x : Later W.heap.size W => (x.cell (p := ⟨g, off + k * 5 + 2, none⟩) gz).trans d2
        have Ld3 := fun x : Later W.heap.size W => (x.cell (p := ⟨g, off + k * 5 + 3, none⟩) gz).trans d3
        have Ld4 := fun x : Later W.heap.size W => (x.cell (p := ⟨g, off + k * 5 + 4, none⟩) gz).trans d4
        have Lt0 := fun x : Later W.heap.size W => (x.cell tz).trans t0
        have Lpa := fun x : Later W.heap.size W => (x.cell pz).trans pa
        have Lpb := fun x : Later W.heap.size W => (x.cell pz).trans pb
        have Lpc := fun x : Later W.heap.size W => (x.cell pz).trans pc
        have Lpg := fun x : Later W.heap.size W => (x.cell pz).trans pg
        by_cases c1 : y.p.n < z.p.n
        · by_cases c2 : cm < y.p.n
          · have hm : min (min z.p.n y.p.n) cm = cm := by omega
            have HM : Hid (nodesL (L.take (k + 1)) = n0 + y.p.n - cm) := Lib.hid (by rw [HN5.out, hm])
            have hrr : 0 ≤ cm ∧ cm ≤ 128 := by omega
            clear hm HN5
            refine region_later W.heap.size (by kernel_rfl) (by kernel_rfl) ?_
            repeat (go_big_quiet_step ((go_at_call 81; exact later_of (Nat.le_refl _) (CC.out _))))
            refine wpQuiet_nil ?_
            intro x
            have hx := x.below
            generalize x.at = V at hx ⊢
            clear x Ld0 Ld1 Ld2 Ld3 Ld4 Lt0 Lpa Lpb Lpc Lpg d0 d1 d2 d3 d4 t0 pa pb pc pg
            have bV := b1.trans (hx.mono b1.size)
            clear hx hkj kt
            go_wp2
            go_roundw
            case rel => exact ⟨k + 1, by omega, by go_num, by (first | (rw [HM.out]; done) | (rw [HM.out]; congr 1; omega)), bV⟩
            case measure => simp [RowKit.intOf]; omega
          · have hm : min (min z.p.n y.p.n) cm = y.p.n := by omega
            have HM : Hid (nodesL (L.take (k + 1)) = n0 + y.p.n - y.p.n) := Lib.hid (by rw [HN5.out, hm])
            have hrr : 0 ≤ y.p.n ∧ y.p.n ≤ 128 := by omega
            clear hm HN5
            refine region_later W.heap.size (by kernel_rfl) (by kernel_rfl) ?_
            repeat (go_big_quiet_step ((go_at_call 81; exact later_of (Nat.le_refl _) (CC.out _))))
            refine wpQuiet_nil ?_
            intro x
            have hx := x.below
            generalize x.at = V at hx ⊢
            clear x Ld0 Ld1 Ld2 Ld3 Ld4 Lt0 Lpa Lpb Lpc Lpg d0 d1 d2 d3 d4 t0 pa pb pc pg
            have bV := b1.trans (hx.mono b1.size)
            clear hx hkj kt
            go_wp2
            go_roundw
            case rel => exact ⟨k + 1, by omega, by go_num, by (first | (rw [HM.out]; done) | (rw [HM.out]; congr 1; omega)), bV⟩
            case measure => simp [RowKit.intOf]; omega
        · by_cases c2 : cm < z.p.n
          · have hm : min (min z.p.n y.p.n) cm = cm := by omega
            have HM : Hid (nodesL (L.take (k + 1)) = n0 + y.p.n - cm) := Lib.hid (by rw [HN5.out, hm])
            have hrr : 0 ≤ cm ∧ cm ≤ 128 := by omega
            clear hm HN5
            refine region_later W.heap.size (by kernel_rfl) (by kernel_rfl) ?_
            repeat (go_big_quiet_step ((go_at_call 81; exact later_of (Nat.le_refl _) (CC.out _))))
            refine wpQuiet_nil ?_
            intro x
            have hx := x.below
            generalize x.at = V at hx ⊢
            clear x Ld0 Ld1 Ld2 Ld3 Ld4 Lt0 Lpa Lpb Lpc Lpg d0 d1 d2 d3 d4 t0 pa pb pc pg
            have bV := b1.trans (hx.mono b1.size)
            clear hx hkj kt
            go_wp2
            go_roundw
            case rel => exact ⟨k + 1, by omega, by go_num, by (first | (rw [HM.out]; done) | (rw [HM.out]; congr 1; omega)), bV⟩
            case measure => simp [RowKit.intOf]; omega
          · have hm : min (min z.p.n y.p.n) cm = z.p.n := by omega
            have HM : Hid (nodesL (L.take (k + 1)) = n0 + y.p.n - z.p.n) := Lib.hid (by rw [HN5.out, hm])
            have hrr : 0 ≤ z.p.n ∧ z.p.n ≤ 128 := by omega
            clear hm HN5
            refine region_later W.heap.size (by kernel_rfl) (by kernel_rfl) ?_
            repeat (go_big_quiet_step ((go_at_call 81; exact later_of (Nat.le_refl _) (CC.out _))))
            refine wpQuiet_nil ?_
            intro x
            have hx := x.below
            generalize x.at = V at hx ⊢
            clear x Ld0 Ld1 Ld2 Ld3 Ld4 Lt0 Lpa Lpb Lpc Lpg d0 d1 d2 d3 d4 t0 pa pb pc pg
            have bV := b1.trans (hx.mono b1.size)
            clear hx hkj kt
            go_wp2
            go_roundw
            case rel => exact ⟨k + 1, by omega, by go_num, by (first | (rw [HM.out]; done) | (rw [HM.out]; congr 1; omega)), bV⟩
            case measure => simp [RowKit.intOf]; omega
    · obtain rfl : k = L.length := by omega
      rw [List.take_length, HR.out]
      have kt : decide ((L.length : Int) < (L.length : Int)) = false := by simp
      go_wp2
      go_ret
      exact ⟨rfl, hB⟩
end

end Go.Proofs.YtcbfppangiopeaaGreat

namespace Go.Proofs.YtcbfppangiopeaaGreat
open Go.RowKit

set_option maxHeartbeats 400000 in
theorem rpcmp_any (p q : Pf) (w : World) :
    Calls Tryz.prog 77 #[.agg #[.int .u64 (u p.a.hi), .int .u64 (u p.a.lo), .bool p.a.v6, .int .i64 p.n], .agg #[.int .u64 (u q.a.hi), .int .u64 (u q.a.lo), .bool q.a.v6, .int .i64 q.n]] w fun e w' => e = .returned (.int .i64 (pcmp p q)) ∧ Below w.heap.size w w' := by
  by_cases h : cmpv p.a q.a = 0
  · have h' : (cmpv p.a q.a == 0) = true := by simp [h]
    have e0 := Lib.hid (show pcmp p q = cmpI p.n q.n from if_pos h)
    clear h
    by_cases h1 : p.n < q.n
    · have t1 : decide (p.n < q.n) = true := by simp [h1]
      have e1 := Lib.hid (show cmpI p.n q.n = -1 from if_pos h1)
      go_enter Tryz.func77, Tryz.ntmps77
      go_wp2_with fail
      refine (refCompare_any p.a q.a _).mono ?_
      rintro e w1 ⟨rfl, hw1⟩
      have zw1 := hw1.size
      have bw1 := below_of (w := w) (by go_grown) hw1
      try simp at zw1
      obtain ⟨pa, pb, pc, pg, pd, pe, pf, ph, pz⟩ := cells4 (b := w.heap.size) hw1 (by go_size) (by go_simp <;> rfl) (by go_simp <;> rfl) (by go_simp <;> rfl) (by go_simp <;> rfl) (by go_simp <;> rfl) (by go_simp <;> rfl) (by go_simp <;> rfl) (by go_simp <;> rfl)
      obtain ⟨qa, qb, qc, qg, qd, qe, qf, qh, qz⟩ := cells4 (b := w.heap.size + 1) hw1 (by go_size) (by go_simp <;> rfl) (by go_simp <;> rfl) (by go_simp <;> rfl) (by go_simp <;> rfl) (by go_simp <;> rfl) (by go_simp <;> rfl) (by go_simp <;> rfl) (by go_simp <;> rfl)
      clear hw1
      go_wp2
      go_ret
      exact ⟨ret_int (by rw [e0.out, e1.out]), bw1⟩
    · have t1 : decide (p.n < q.n) = false := by simp [h1]
      by_cases h2 : q.n < p.n
      · have t2 : decide (q.n < p.n) = true := by simp [h2]
        have e1 := Lib.hid (show cmpI p.n q.n = 1 from (if_neg h1).trans (if_pos h2))
        go_enter Tryz.func77, Tryz.ntmps77
        go_wp2_with fail
        refine (refCompare_any p.a q.a _).mono ?_
        rintro e w1 ⟨rfl, hw1⟩
        have zw1 := hw1.size
        have bw1 := below_of (w := w) (by go_grown) hw1
        try simp at zw1
        obtain ⟨pa, pb, pc, pg, pd, pe, pf, ph, pz⟩ := cells4 (b := w.heap.size) hw1 (by go_size) (by go_simp <;> rfl) (by go_simp <;> rfl) (by go_simp <;> rfl) (by go_simp <;> rfl) (by go_simp <;> rfl) (by go_simp <;> rfl) (by go_simp <;> rfl) (by go_simp <;> rfl)
        obtain ⟨qa, qb, qc, qg, qd, qe, qf, qh, qz⟩ := cells4 (b := w.heap.size + 1) hw1 (by go_size) (by go_simp <;> rfl) (by go_simp <;> rfl) (by go_simp <;> rfl) (by go_simp <;> rfl) (by go_simp <;> rfl) (by go_simp <;> rfl) (by go_simp <;> rfl) (by go_simp <;> rfl)
        clear hw1
        go_wp2
        go_ret
        exact ⟨ret_int (by rw [e0.out, e1.out]), bw1⟩
      · have t2 : decide (q.n < p.n) = false := by simp [h2]
        have e1 := Lib.hid (show cmpI p.n q.n = 0 from (if_neg h1).trans (if_neg h2))
        go_enter Tryz.func77, Tryz.ntmps77
        go_wp2_with fail
        refine (refCompare_any p.a q.a _).mono ?_
        rintro e w1 ⟨rfl, hw1⟩
        have zw1 := hw1.size
        have bw1 := below_of (w := w) (by go_grown) hw1
        try simp at zw1
        obtain ⟨pa, pb, pc, pg, pd, pe, pf, ph, pz⟩ := cells4 (b := w.heap.size) hw1 (by go_size) (by go_simp <;> rfl) (by go_simp <;> rfl) (by go_simp <;> rfl) (by go_simp <;> rfl) (by go_simp <;> rfl) (by go_simp <;> rfl) (by go_simp <;> rfl) (by go_simp <;> rfl)
        obtain ⟨qa, qb, qc, qg, qd, qe, qf, qh, qz⟩ := cells4 (b := w.heap.size + 1) hw1 (by go_size) (by go_simp <;> rfl) (by go_simp <;> rfl) (by go_simp <;> rfl) (by go_simp <;> rfl) (by go_simp <;> rfl) (by go_simp <;> rfl) (by go_simp <;> rfl) (by go_simp <;> rfl)
        clear hw1
        go_wp2
        go_ret
        exact ⟨ret_int (by rw [e0.out, e1.out]), bw1⟩
  · have h' : (cmpv p.a q.a == 0) = false := by simp [h]
    have e0 := Lib.hid (show pcmp p q = cmpv p.a q.a from if_neg h)
    clear h
    go_enter Tryz.func77, Tryz.ntmps77
    go_wp2_with fail
    refine (refCompare_any p.a q.a _).mono ?_
    rintro e w1 ⟨rfl, hw1⟩
    have zw1 := hw1.size
    have bw1 := below_of (w := w) (by go_grown) hw1
    try simp at zw1
    obtain ⟨pa, pb, pc, pg, pd, pe, pf, ph, pz⟩ := cells4 (b := w.heap.size) hw1 (by go_size) (by go_simp <;> rfl) (by go_simp <;> rfl) (by go_simp <;> rfl) (by go_simp <;> rfl) (by go_simp <;> rfl) (by go_simp <;> rfl) (by go_simp <;> rfl) (by go_simp <;> rfl)
    obtain ⟨qa, qb, qc, qg, qd, qe, qf, qh, qz⟩ := cells4 (b := w.heap.size + 1) hw1 (by go_size) (by go_simp <;> rfl) (by go_simp <;> rfl) (by go_simp <;> rfl) (by go_simp <;> rfl) (by go_simp <;> rfl) (by go_simp <;> rfl) (by go_simp <;> rfl) (by go_simp <;> rfl)
    clear hw1
    go_wp2
    go_ret
    exact ⟨ret_int e0.out.symm, bw1⟩

/-- The greatest number of first digits that covers both. -/
def jm (p q : Pf) : Int := min (min p.n q.n) (commonv p.a q.a)
theorem jm_step (p q : Pf) (hp : psane p = true) (hq : psane q = true) (hv : p.a.v6 = q.a.v6) : 0 ≤ jm p q ∧ ∀ m, jm p q ≤ m → m ≤ min p.n q.n → (pcov (pof p.a m) q = true ↔ m = jm p q) := by
  obtain ⟨s1, s2, s3, s4⟩ := (psane_iff p).1 hp
  obtain ⟨t1, t2, t3, t4⟩ := (psane_iff q).1 hq
  obtain ⟨k, hk, _⟩ := common_spec p.a q.a hv
  have h0 : 0 ≤ jm p q := by unfold jm; omega
  refine ⟨h0, fun m h1 h2 => ?_⟩
  rw [pcov_of p q hp hq hv m (by omega) (by omega)]
  unfold jm at *
  omega

end Go.Proofs.YtcbfppangiopeaaGreat
