/-
  What Sibling, Join and Compare of the document's answer for layer 2 return. No condition.
-/
import Derived.Test.YtggceecolfebjaaY1
import Derived.Laws.AppendOwnNone
import Derived.Deep.DeepCutAuto
import Derived.Deep.RegionHeld3
namespace Go.Proofs.Ytggceecolfebjaa
open Go.RowKit
set_option maxRecDepth 100000

/-- Pairs laid behind pairs. -/
theorem pairs_append (W : World) (base base' : Nat) (v v2 : Value) (a b : List Pr) (ty : TypeId) (hown : W.ownsRow base 133 5 v a.length (prv a)) (h2 : W.ownsRow base' 133 5 v2 b.length (prv b)) (hb : a.length + b.length ≤ 1000000000) (hbase : base ≤ W.heap.size) :
    ∃ v' w', (Builtin.append_ #[130, 130] ty #[v, v2]).run Try.prog W = .ok v' w' ∧ w'.ownsRow base 133 5 v' (a ++ b).length (prv (a ++ b)) ∧ W.grownBy w' v.ownBlock := by
  obtain ⟨i0, hi0, hz0, hz1, hz2⟩ := info_parts info_pr
  rcases h2.2 with ⟨rfl, hn⟩ | ⟨g, cap, cur, rfl, _, hg, hnc, hm, hs, ht⟩
  · have e : b = [] := List.eq_nil_of_length_eq_zero hn
    subst e
    refine ⟨v, W, ?_, by simpa using hown, World.grownBy.refl W _⟩
    rcases hown.2 with ⟨rfl, h0⟩ | ⟨g, cap, cur, rfl, _, _, hnc, _⟩
    · simp [Builtin.append_, run_underlying Try.underlying130, sizeOf, typeInfo, hi0, Builtin.lenOf, Builtin.firstCells]
    · simp [Builtin.append_, run_underlying Try.underlying130, sizeOf, typeInfo, hi0, Builtin.lenOf, Builtin.firstCells, hnc, storeCells]
  · obtain ⟨v', w', e1, e2, e3, _, _⟩ := run_append_own_at (P := Try.prog) W base 130 ty 133 i0 _ 5 40 Try.underlying130 hi0 hz0 hz1 hz2 rfl (by omega) v a.length _ hown ⟨g, 0, none⟩ b.length cap (prv b) (prv_len b) (h2.cells (g := g) rfl) (by
      intro u hu
      unfold prv at hu
      obtain ⟨x, _, hx⟩ := List.mem_flatMap.1 hu
      exact pr5_cell x u hx) (by simp only [maxLen]; omega) (by omega) hbase
    exact ⟨v', w', e1, by rw [prv_append, List.length_append]; exact e2, e3⟩
section
variable {ops : Array Oper} {o : Oper} {a : Act} {w : World} {Q : Exit → Act → World → Prop}
theorem wpList_pairs {rest : List Oper} (hgd : o.guard = none) (s x : Operand) (ho : o.op = .call { callee := .builtin .append, args := #[s, x], argTypes := #[130, 130] }) (base base' : Nat) (v v2 : Value) (l m : List Pr) (hs : a.eval s = v) (hx : a.eval x = v2) (hown : w.ownsRow base 133 5 v l.length (prv l)) (h2 : w.ownsRow base' 133 5 v2 m.length (prv m))
    (hb : l.length + m.length ≤ 1000000000) (hbase : base ≤ w.heap.size)
    (h : ∀ v' w', w'.ownsRow base 133 5 v' (l ++ m).length (prv (l ++ m)) → Below base w w' → wpList Try.prog ops Q rest (a.put o.dst v') w') : wpList Try.prog ops Q (o :: rest) a w := by
  refine wpList_plain hgd fun _ hK => ?_
  obtain ⟨v', w', e1, e2, e3⟩ := pairs_append w base base' v v2 l m o.type hown h2 hb hbase
  unfold Oper.wp execOp
  simp only [ho, resolve, invoke, builtin, Sem.run_bind, Sem.run_pure, Result.andThen_ok, List.map_toArray, List.map_cons, List.map_nil, hs, hx, e1]
  exact hK _ _ (h v' w' e2 ((Below.refl base w).grown e3 hbase (own_ge hown)))
end
def root4 : Pf := ⟨⟨0#64, 0#64, false⟩, 0⟩
def root6 : Pf := ⟨⟨0#64, 0#64, true⟩, 0⟩
theorem root_sane : psane root4 = true ∧ psane root6 = true := by decide +kernel
theorem cov_root {p : Pf} (hp : psane p = true) : pcov root4 p = !p.a.v6 ∧ pcov root6 p = p.a.v6 := by
  have h0 := (psane_bd hp).1
  have key : ∀ r : Pf, psane r = true → r.n = 0 → (pcov r p = true ↔ r.a.v6 = p.a.v6) := by
    intro r hr hn
    rw [pcov_iff]
    constructor
    · exact fun h => h.2.2.2.1
    · intro h
      refine ⟨hr, hp, by omega, h, fun j hj => ?_⟩
      rw [hn] at hj
      rw [D_ge _ _ (by omega), D_ge _ _ (by omega)]
  have k4 := key root4 root_sane.1 rfl
  have k6 := key root6 root_sane.2 rfl
  cases hv : p.a.v6
  · rw [hv] at k4 k6
    refine ⟨k4.2 rfl, ?_⟩
    cases hc : pcov root6 p
    · rfl
    · exact absurd (k6.1 hc) (by simp [root6])
  · rw [hv] at k4 k6
    refine ⟨?_, k6.2 rfl⟩
    cases hc : pcov root4 p
    · rfl
    · exact absurd (k4.1 hc) (by simp [root4])
/-- Those of the fourth version, then those of the sixth, are all. -/
theorem all_eq {L : List Pr} (h : Srt L) : (L.filter fun x => pcov root4 x.p) ++ (L.filter fun x => pcov root6 x.p) = L := by
  refine srt_ext ⟨fun x hx => ?_, ?_⟩ h (fun x => ?_)
  · rcases List.mem_append.1 hx with hx | hx
    · exact h.1 x (List.mem_filter.1 hx).1
    · exact h.1 x (List.mem_filter.1 hx).1
  · rw [List.pairwise_append]
    refine ⟨(filter_srt h _).2, (filter_srt h _).2, fun x hx y hy => ?_⟩
    obtain ⟨x1, x2⟩ := List.mem_filter.1 hx
    obtain ⟨y1, y2⟩ := List.mem_filter.1 hy
    have e1 := (cov_root (h.1 x x1)).1
    have e2 := (cov_root (h.1 y y1)).2
    rw [x2] at e1
    rw [y2] at e2
    have v1 : x.p.a.v6 = false := by simpa using e1.symm
    have := cmp_kind x.p.a y.p.a (by rw [v1, ← e2]; simp)
    rw [← e2] at this
    unfold pcmp
    rw [this]
    simp
  · rw [List.mem_append, List.mem_filter, List.mem_filter]
    constructor
    · rintro (⟨a, _⟩ | ⟨a, _⟩) <;> exact a
    · intro hx
      have := cov_root (h.1 x hx)
      rw [this.1, this.2]
      cases x.p.a.v6
      · exact .inl ⟨hx, rfl⟩
      · exact .inr ⟨hx, rfl⟩
theorem own_fresh {w w' : World} {b1 : Nat} {e : TypeId} {size n : Nat} {v : Value} {xs : List Value} (h : w.ownsRow b1 e size v n xs) (hb : Below w.heap.size w w') : w'.ownsRow b1 e size v n xs := own_block h (fun b _ hl => hb.block b hl)
end Go.Proofs.Ytggceecolfebjaa

namespace Go.Proofs.Ytggceecolfebjaa
open Go.RowKit Go.Maps
set_option maxRecDepth 100000

theorem lawI : Keyed Try.prog 3 := int_keyed Try.underlying3
theorem zeroI (w : World) : (zeroValue 3).run Try.prog w = .ok (.int .i64 0) w := by kernel_rfl
def cnts (w : World) (m n : Nat) (D : DataW Unit) : Prop := w.ownsMap Try.prog 3 (plainElem (H := Unit) Try.prog 3) m n D
theorem Trie.frm {S R : Nat → Prop} {w w' : World} {t : Nat} {L : List Pr} {most : Nat} (h : Trie w t S L most) (hf : Frm R w w') (hd : ∀ b, S b → ¬ R b) : Trie w' t S L most := by
  obtain ⟨T, ⟨vA, vF, rfl, h1⟩, h2⟩ := h
  exact ⟨T, ⟨vA, vF, rfl, h1.frm hf hd⟩, h2⟩
theorem cnts_tight {w : World} {m n : Nat} {D : DataW Unit} (h : cnts w m n D) : cnts w m (Maps.size D) D := by
  obtain ⟨es, clock, hb, F, hs, hD⟩ := h
  refine ⟨es, clock, hb, F, ?_, hD⟩
  rw [hD]
  simp [Maps.size, length_sorted]
theorem cnts_frm {S : Nat → Prop} {w w' : World} {m n : Nat} {D : DataW Unit} (h : cnts w m n D) (hf : Frm S w w') (hn : ¬ S m) : cnts w' m n D := by
  have hl := World.ownsMap.lt h
  obtain ⟨es, clock, hb, F, hs, hD⟩ := h
  exact ⟨es, clock, (hf.block m hl hn).trans hb, F, hs, hD⟩
theorem frm_turned {w w' : World} {m : Nat} (h : w.mapTurned w' m) : Frm (fun b => b = m) w w' :=
  (Frm.refl (fun b => b = m) w).grown h.grown (fun k hk => .inl (by cases hk; rfl))
/-- The routes lie at block r: the tree at t, the counts of hs at m. -/
structure RibA (w : World) (r t m : Nat) (S0 : Nat → Prop) (D : DataW Unit) (n h : Int) (L : List Pr) (most : Nat) (hs : List Int) : Prop where
  blk : w.heap[r]? = some (.cells #[.pointer (some ⟨t, 0, none⟩), .map (some m), .int .i64 n, .int .i64 h] 90 (0, 0))
  tree : Trie w t S0 L most
  map : cnts w m (Maps.size D) D
  uses : Uses D hs
  d1 : ¬ S0 r
  d2 : ¬ S0 m
  d3 : r ≠ m
/-- What routes keep to. -/
structure Inv (n h : Int) (L : List Pr) : Prop where
  hop : ∀ x ∈ L, 0 ≤ x.v ∧ x.v ≤ 65535
  n0 : 0 ≤ n ∧ n ≤ 4096
  h0 : 0 ≤ h ∧ h ≤ 65536
  few : (L.length : Int) ≤ n
  like : (unl (hopsL L) : Int) ≤ h
def ribS (r m : Nat) (S0 : Nat → Prop) (b : Nat) : Prop := b = r ∨ b = m ∨ S0 b
def RibS (w : World) (r : Nat) (S : Nat → Prop) (n h : Int) (L : List Pr) (most : Nat) : Prop := ∃ t m S0 D, RibA w r t m S0 D n h L most (hopsL L) ∧ Inv n h L ∧ S = ribS r m S0

theorem RibA.lt {w : World} {r t m : Nat} {S0 : Nat → Prop} {D : DataW Unit} {n h : Int} {L : List Pr} {most : Nat} {hs : List Int} (H : RibA w r t m S0 D n h L most hs) : r < w.heap.size := lt_of_block H.blk
theorem RibA.keep {w w' : World} {r t m : Nat} {S0 : Nat → Prop} {D : DataW Unit} {n h : Int} {L : List Pr} {most : Nat} {hs : List Int} (H : RibA w r t m S0 D n h L most hs) (hb : Below w.heap.size w w') : RibA w' r t m S0 D n h L most hs :=
  { H with blk := (hb.block _ H.lt).trans H.blk, tree := H.tree.keep hb, map := cnts_frm H.map (frm_of_below (S := fun _ => False) hb) id }
theorem RibS.keep {w w' : World} {r : Nat} {S : Nat → Prop} {n h : Int} {L : List Pr} {most : Nat} (H : RibS w r S n h L most) (hb : Below w.heap.size w w') : RibS w' r S n h L most := by
  obtain ⟨t, m, S0, D, H, hI, e⟩ := H
  exact ⟨t, m, S0, D, H.keep hb, hI, e⟩
theorem RibS.lt {w : World} {r : Nat} {S : Nat → Prop} {n h : Int} {L : List Pr} {most : Nat} (H : RibS w r S n h L most) : ∀ b, S b → b < w.heap.size := by
  obtain ⟨t, m, S0, D, H, hI, rfl⟩ := H
  rintro b (rfl | rfl | hb)
  · exact H.lt
  · exact World.ownsMap.lt H.map
  · exact H.tree.lt b hb
theorem RibS.srt {w : World} {r : Nat} {S : Nat → Prop} {n h : Int} {L : List Pr} {most : Nat} (H : RibS w r S n h L most) : Srt L := by
  obtain ⟨t, m, S0, D, H, hI, rfl⟩ := H
  exact H.tree.srt
/-- The cells of the block. -/
theorem RibA.cells {w : World} {r t m : Nat} {S0 : Nat → Prop} {D : DataW Unit} {n h : Int} {L : List Pr} {most : Nat} {hs : List Int} (H : RibA w r t m S0 D n h L most hs) :
    w.cell? ⟨r, 0, none⟩ = some (.pointer (some ⟨t, 0, none⟩)) ∧ w.cell? ⟨r, 1, none⟩ = some (.map (some m)) ∧ w.cell? ⟨r, 2, none⟩ = some (.int .i64 n) ∧ w.cell? ⟨r, 3, none⟩ = some (.int .i64 h) :=
  ⟨by rw [cell_row H.blk]; rfl, by rw [cell_row H.blk]; rfl, by rw [cell_row H.blk]; rfl, by rw [cell_row H.blk]; rfl⟩
theorem wf_hop {k : Int} (h : 0 ≤ k ∧ k ≤ 65535) : (Lit.int .i64 k).wf = true := WalkArith.wf_i64 (by omega)
theorem cnts_look {w : World} {m n : Nat} {D : DataW Unit} {k c : Int} (h : cnts w m n D) (hk : 0 ≤ k ∧ k ≤ 65535) (hat : D.atKey (.int .i64 k) (i64 0) = i64 c) :
    (Instr.lookup 88 (.map (some m)) (.int .i64 k) false).run Try.prog w = .ok (.int .i64 c) w := by
  obtain ⟨c', hrun, hat', hwc⟩ := World.ownsMap.lookup_int h lawI Try.underlying88 Try.underlying3 (zeroI w) (keyOf_int_mk Try.underlying3 (wf_hop hk))
  rw [hat'] at hat
  simp only [DataW.lit.injEq, Lit.int.injEq, true_and] at hat
  rw [hrun, hat]
theorem RibA.look {w : World} {r t m : Nat} {S0 : Nat → Prop} {D : DataW Unit} {n h : Int} {L : List Pr} {most : Nat} {hs : List Int} (H : RibA w r t m S0 D n h L most hs) {k : Int} (hk : 0 ≤ k ∧ k ≤ 65535) :
    (Instr.lookup 88 (.map (some m)) (.int .i64 k) false).run Try.prog w = .ok (.int .i64 (hs.count k : Int)) w := cnts_look H.map hk (H.uses.at_ k)
theorem RibA.len {w : World} {r t m : Nat} {S0 : Nat → Prop} {D : DataW Unit} {n h : Int} {L : List Pr} {most : Nat} {hs : List Int} (H : RibA w r t m S0 D n h L most hs) (ty : TypeId) :
    (Builtin.len_ #[88] ty #[.map (some m)]).run Try.prog w = .ok (.int .i64 (unl hs : Int)) w := by
  rw [World.ownsMap.len H.map Try.underlying88 ty, H.uses.size]

section
variable {w : World} {r t m : Nat} {S0 : Nat → Prop} {D : DataW Unit} {n h : Int} {L : List Pr} {most : Nat} {hs : List Int}
set_option maxHeartbeats 400000 in
theorem routes_any (H : RibA w r t m S0 D n h L most hs) : Calls Try.prog 79 #[.pointer (some ⟨r, 0, none⟩)] w fun e w' => e = .returned (.pointer (some ⟨t, 0, none⟩)) ∧ w = w' := by
  obtain ⟨c0, -, -, -⟩ := H.cells
  clear H
  go_enter Try.func79, Try.ntmps79
  go_wp2
  go_ret
  exact ⟨rfl, rfl⟩
/-- What release leaves. -/
def RelPost (w : World) (r t m : Nat) (S0 : Nat → Prop) (n h : Int) (L : List Pr) (most : Nat) (hs : List Int) (e : Ending) (w' : World) : Prop := e = .returned (.tuple #[]) ∧ ∃ D', RibA w' r t m S0 D' n h L most hs ∧ Frm (fun b => b = m) w w'
theorem RibA.turned {w w' : World} {r t m : Nat} {S0 : Nat → Prop} {D D' : DataW Unit} {n h : Int} {L : List Pr} {most k : Nat} {hs hs' : List Int} (H : RibA w r t m S0 D n h L most hs) (ht : w.mapTurned w' m) (ho : cnts w' m k D') (hu : Uses D' hs') : RibA w' r t m S0 D' n h L most hs' := by
  have hf := frm_turned ht
  exact ⟨(hf.block r H.lt H.d3).trans H.blk, H.tree.frm hf (fun b hb e => H.d2 (e ▸ hb)), cnts_tight ho, hu, H.d1, H.d2, H.d3⟩
theorem wf_small {c : Nat} (h : c ≤ 1000000) : (Lit.int .i64 (c : Int)).wf = true := WalkArith.wf_i64 (by omega)
theorem count_le (hs : List Int) (k : Int) : hs.count k ≤ hs.length := List.count_le_length

set_option maxHeartbeats 1000000 in
theorem release_any {o : Int} (H : RibA w r t m S0 D n h L most (o :: hs)) (ho : 0 ≤ o ∧ o ≤ 65535) (hl : hs.length ≤ 100000) : Calls Try.prog 46 #[.pointer (some ⟨r, 0, none⟩), .int .i64 o] w (RelPost w r t m S0 n h L most hs) := by
  have HH := Lib.hid H
  obtain ⟨-, c1, -, -⟩ := H.cells
  have lk1 := H.look ho
  rw [show (((o :: hs).count o : Nat) : Int) = (hs.count o : Int) + 1 from by simp] at lk1
  have hcl := count_le hs o
  have hsz : Maps.size D ≤ 100001 := by
    rw [H.uses.size]
    have := unl_le (o :: hs)
    simp only [List.length_cons] at this
    omega
  have hown := H.map
  have hwf : (Lit.int .i64 (hs.count o : Int)).wf = true := wf_small (by omega)
  have hkey := keyOf_int_mk Try.underlying3 (wf_hop ho)
  obtain ⟨c, hc⟩ : ∃ c, hs.count o = c := ⟨_, rfl⟩
  rw [hc] at lk1 hwf hcl
  have HO := Lib.hid hown
  have HC := Lib.hid hc
  have HK := Lib.hid hkey
  have HWF := Lib.hid hwf
  have hd3 := H.d3
  have hrz := H.lt
  clear H hown hc hkey hwf
  by_cases hc0 : c = 0
  · subst hc0
    have HC0 := HC
    go_enter Try.func46, Try.ntmps46
    go_wp2_with (first
      | (at_mapUpdate; refine wpList_mapUpdate_in _ rfl _ _ _ 88 rfl 3 3 lawI Try.underlying88 (plainElem (H := Unit) Try.prog 3) m _ D rfl HO.out (by unfold maxLen; omega) _ _ _ rfl rfl HK.out _ [] (plainElem_int Try.underlying3 (a := 0) HWF.out) ?_; intro w1 hown1 hturn1; have d1 := ((frm_turned hturn1).cell (p := ⟨r, 1, none⟩) hrz hd3).trans c1; have lk2 := cnts_look hown1 ho (atKey_put_same HH.out.uses.tidy.isMap (key_int o) _ _); have HO1 := Lib.hid hown1; have HT1 := Lib.hid hturn1; clear hown1 hturn1)
      | (at_delete; refine wpList_delete_own _ rfl _ _ 88 3 rfl 3 lawI Try.underlying88 (plainElem (H := Unit) Try.prog 3) m _ _ rfl HO1.out _ _ rfl HK.out ?_; intro w2 hown2 hturn2; have HO2 := Lib.hid hown2; have HT2 := Lib.hid hturn2; clear hown2 hturn2)
      | fail)
    go_end0
    exact ⟨rfl, _, HH.out.turned (HT1.out.trans HT2.out) HO2.out (HH.out.uses.last HC.out _), frm_turned (HT1.out.trans HT2.out)⟩
  · have t1 : ((c : Int) == 0) = false := by simp; omega
    go_enter Try.func46, Try.ntmps46
    go_wp2_with (first
      | (at_mapUpdate; refine wpList_mapUpdate_in _ rfl _ _ _ 88 rfl 3 3 lawI Try.underlying88 (plainElem (H := Unit) Try.prog 3) m _ D rfl HO.out (by unfold maxLen; omega) _ _ _ rfl rfl HK.out _ [] (plainElem_int Try.underlying3 HWF.out) ?_; intro w1 hown1 hturn1; have d1 := ((frm_turned hturn1).cell (p := ⟨r, 1, none⟩) hrz hd3).trans c1; have lk2 := cnts_look hown1 ho (atKey_put_same HH.out.uses.tidy.isMap (key_int o) _ _); have HO1 := Lib.hid hown1; have HT1 := Lib.hid hturn1; clear hown1 hturn1)
      | fail)
    go_end0
    have hu := HH.out.uses.less (by rw [HC.out]; exact hc0)
    rw [HC.out] at hu
    exact ⟨rfl, _, HH.out.turned HT1.out HO1.out hu, frm_turned HT1.out⟩
/-- Would there be room then? -/
def fitsB (n h : Int) (L : List Pr) (p : Pf) (k : Int) : Bool := decide (((putL p k L).length : Int) ≤ n) && decide ((unl (hopsL (putL p k L)) : Int) ≤ h)

set_option maxHeartbeats 2000000 in
theorem fits_any (H : RibA w r t m S0 D n h L most (hopsL L)) (hI : Inv n h L) (p : Pf) (hp : psane p = true) (k : Int) (hk : 0 ≤ k ∧ k ≤ 65535) : Calls Try.prog 44 #[.pointer (some ⟨r, 0, none⟩), .agg #[.int .u64 (u p.a.hi), .int .u64 (u p.a.lo), .bool p.a.v6, .int .i64 p.n], .int .i64 k] w fun e w' => e = .returned (.bool (fitsB n h L p k)) ∧ Below w.heap.size w w' := by
  have HH := Lib.hid H
  have hs := H.tree.srt
  have hl1 := put_len (v := k) hs hp
  have hl2 := hops_then (v := k) hs hp
  have hg : getQ p L = lk L p := by unfold getQ; rw [if_pos hp]
  have hul := unl_le (hopsL L)
  have hlen : (hopsL L).length = L.length := List.length_map _
  have hn := hI.n0
  have hh := hI.h0
  have hf := hI.few
  have hlk : ∀ o, lk L p = some o → 0 ≤ o ∧ o ≤ 65535 := fun o ho => hI.hop _ (lk_mem ho)
  have HF : Hid (fitsB n h L p k = (decide (((putL p k L).length : Int) ≤ n) && decide ((unl (hopsL (putL p k L)) : Int) ≤ h))) := Lib.hid rfl
  have HG := Lib.hid hg
  have HLK := Lib.hid hlk
  generalize (putL p k L).length = PL at hl1 HF
  generalize unl (hopsL (putL p k L)) = PU at hl2 HF
  obtain ⟨UL, hUL⟩ : ∃ UL, unl (hopsL L) = UL := ⟨_, rfl⟩
  rw [hUL] at hl2 hul
  have HUL := Lib.hid hUL
  obtain ⟨G, hG⟩ : ∃ G, lk L p = G := ⟨_, rfl⟩
  rw [hG] at hl1 hl2 HG HLK
  have H1 := Lib.hid hl1
  have H2 := Lib.hid hl2
  have hub : UL ≤ 4096 := by omega
  have hlb : L.length ≤ 4096 := by omega
  clear H hI hs hl1 hl2 hg hlk hul hlen hf hp hUL hG
  go_enter Try.func44, Try.ntmps44
  go_wp2_with fail
  generalize hW : World.alloc _ _ = W
  have hz : w.heap.size ≤ W.heap.size := by subst hW; go_size
  have hB : Below w.heap.size w W := by subst hW; go_grown
  have pa : W.cell? ⟨w.heap.size, 0, none⟩ = some (.int .u64 (u p.a.hi)) := by subst hW; go_simp <;> rfl
  have pb : W.cell? ⟨w.heap.size, 1, none⟩ = some (.int .u64 (u p.a.lo)) := by subst hW; go_simp <;> rfl
  have pc : W.cell? ⟨w.heap.size, 2, none⟩ = some (.bool p.a.v6) := by subst hW; go_simp <;> rfl
  have pd : W.cell? ⟨w.heap.size, 3, none⟩ = some (.int .i64 p.n) := by subst hW; go_simp <;> rfl
  have pz : w.heap.size < W.heap.size := by subst hW; go_size
  have HW := Lib.hid (HH.out.keep hB)
  obtain ⟨c0, c1, -, -⟩ := HW.out.cells
  have rz := HW.out.lt
  clear hW HH
  have L0 := fun x : Later W.heap.size W => (x.cell rz).trans c0
  have L1 := fun x : Later W.heap.size W => (x.cell rz).trans c1
  have LL : ∀ (x : Later W.heap.size W) (ty : TypeId), (Builtin.len_ #[88] ty #[.map (some m)]).run Try.prog x.at = .ok (.int .i64 (UL : Int)) x.at := fun x ty => by rw [← HUL.out]; exact (HW.out.keep x.below).len ty
  refine region_later W.heap.size (by kernel_rfl) (by kernel_rfl) ?_
  repeat (go_big_quiet_step ((go_at_call 71; exact later_same (trie_len (HW.out.keep (Later.below _)).tree))))
  refine wpQuiet_nil ?_
  intro x
  have hx := x.below
  generalize x.at = V at hx ⊢
  clear x L0 L1 LL c0 c1
  have HV := Lib.hid (HW.out.keep hx)
  have vz := hx.size
  have bV := hB.trans (hx.mono hz)
  replace pa := (hx.cell pz).trans pa
  replace pb := (hx.cell pz).trans pb
  replace pc := (hx.cell pz).trans pc
  replace pd := (hx.cell pz).trans pd
  have pz' : w.heap.size < V.heap.size := by omega
  clear hx pz hB HW rz hz
  obtain ⟨W, rfl⟩ : ∃ W, W = V := ⟨_, rfl⟩
  obtain ⟨c0, c1, -, -⟩ := HV.out.cells
  have rz := HV.out.lt
  have L0 := fun x : Later W.heap.size W => (x.cell rz).trans c0
  have La := fun x : Later W.heap.size W => (x.cell pz').trans pa
  have Lb := fun x : Later W.heap.size W => (x.cell pz').trans pb
  have Lc := fun x : Later W.heap.size W => (x.cell pz').trans pc
  have Ld := fun x : Later W.heap.size W => (x.cell pz').trans pd
  have cg : ∀ x : Later W.heap.size W, Calls Try.prog 45 #[.pointer (some ⟨t, 0, none⟩), .agg #[.int .u64 (u p.a.hi), .int .u64 (u p.a.lo), .bool p.a.v6, .int .i64 p.n]] x.at fun e w' => e = .returned (.tuple #[.int .i64 (G.getD 0), .bool G.isSome]) ∧ Below x.at.heap.size x.at w' := fun x => by
    have := trie_get (HV.out.keep x.below).tree p
    rw [HG.out] at this
    exact this
  have CG := Lib.hid cg
  clear cg
  go_wp2_with fail
  refine region_later W.heap.size (by kernel_rfl) (by kernel_rfl) ?_
  repeat (go_big_quiet_step ((go_at_call 45; exact later_of (Nat.le_refl _) (CG.out _))))
  refine wpQuiet_nil ?_
  intro x
  have hx := x.below
  generalize x.at = V at hx ⊢
  clear x L0 La Lb Lc Ld c0 c1 pa pb pc pd pz' CG
  have HR := Lib.hid (HV.out.keep hx)
  have bR := bV.trans (hx.mono bV.size)
  obtain ⟨c0, c1, c2, c3⟩ := HR.out.cells
  have lk := HR.out.look hk
  obtain ⟨K, hK⟩ : ∃ K, (hopsL L).count k = K := ⟨_, rfl⟩
  rw [hK] at lk H2
  clear hx HV vz bV rz hK HG HUL
  cases G with
  | none =>
    have e1 := H1.out
    have e2 := H2.out
    simp only [Option.isSome_none, Bool.false_eq_true, if_false] at e1 e2
    clear H1 H2 HLK
    go_wp2
    all_goals
      go_ret
      refine ⟨ret_bool ?_, bR⟩
      rw [HF.out, Bool.eq_iff_iff]
      clear lk HR c0 c1 c2 c3 bR HF
      simp only [Bool.and_eq_true, decide_eq_true_eq, beq_iff_eq, beq_eq_false_iff_ne, ne_eq, Bool.false_eq_true, false_iff] at *
      split at e2 <;> omega
  | some o =>
    have ho := HLK.out o rfl
    have lo := HR.out.look ho
    obtain ⟨O, hO⟩ : ∃ O, (hopsL L).count o = O := ⟨_, rfl⟩
    have e1 := H1.out
    have e2 := H2.out
    simp only [Option.isSome_some, if_true] at e1 e2
    rw [hO] at lo e2
    clear H1 H2 HLK hO
    go_wp2
    all_goals
      go_ret
      refine ⟨ret_bool ?_, bR⟩
      rw [HF.out, Bool.eq_iff_iff]
      clear lk lo HR c0 c1 c2 c3 bR HF
      simp only [Bool.and_eq_true, decide_eq_true_eq, beq_iff_eq, bne_iff_ne, beq_eq_false_iff_ne, bne_eq_false_iff_eq, ne_eq, Bool.false_eq_true, false_iff] at *
      split at e2 <;> split at e2 <;> omega
end

end Go.Proofs.Ytggceecolfebjaa

namespace Go.Proofs.Ytggceecolfebjaa
open Go.RowKit Go.Maps
set_option maxRecDepth 100000

def clampN (n : Int) : Int := min (max n 0) 4096
def clampH (h : Int) : Int := min (max h 0) 65536
def RNewPost (n h : Int) (w : World) (e : Ending) (w' : World) : Prop := ∃ r S, e = .returned (.pointer (some ⟨r, 0, none⟩)) ∧ RibS w' r S (clampN n) (clampH h) [] 2 ∧ Below w.heap.size w w' ∧ ∀ b, S b → w.heap.size ≤ b
theorem rnew_end {w w1 : World} {t : Nat} {S1 : Nat → Prop} {n h a b : Int} (hT : Trie w1 t S1 [] 2) (hb : Below w.heap.size w w1) (hS : ∀ b, S1 b → w.heap.size ≤ b) (ha : a = clampN n) (hh : b = clampH h) :
    RNewPost n h w (.returned (.pointer (some ⟨w1.heap.size + 1, 0, none⟩))) ((w1.alloc (.map #[] 0)).alloc (.cells #[.pointer (some ⟨t, 0, none⟩), .map (some w1.heap.size), .int .i64 a, .int .i64 b] 90)) := by
  subst ha hh
  have h1 := hT.lt
  have e1 : (w1.alloc (.map #[] 0)).heap.size = w1.heap.size + 1 := by simp
  refine ⟨w1.heap.size + 1, ribS (w1.heap.size + 1) w1.heap.size S1, rfl, ⟨t, w1.heap.size, S1, .map [], ⟨hp_new e1.symm, ?_, ?_, uses_nil, ?_, ?_, by omega⟩, ⟨by simp, ?_, ?_, ?_, ?_⟩, rfl⟩, hb.trans (Below.mono (by go_grown) hb.size), ?_⟩
  · exact hT.keep (by go_grown)
  · exact (World.ownsMap_made w1 Try.prog 3 (plainElem (H := Unit) Try.prog 3)).alloc _
  · exact fun e => by have := h1 _ e; omega
  · exact fun e => by have := h1 _ e; omega
  · unfold clampN; omega
  · unfold clampH; omega
  · simp only [List.length_nil]; unfold clampN; omega
  · show ((0 : Nat) : Int) ≤ _
    unfold clampH; omega
  · rintro b (rfl | rfl | hb')
    · have := hb.size; omega
    · exact hb.size
    · exact hS b hb'
set_option maxHeartbeats 1000000 in
theorem rib_new (n h : Int) (w : World) : Calls Try.prog 21 #[.int .i64 n, .int .i64 h] w (RNewPost n h w) := by
  have hmm := @run_makeMap Try.prog
  go_enter Try.func21, Try.ntmps21
  go_wp2_with fail
  refine (trie_new _).mono ?_
  rintro e w1 ⟨t, S1, rfl, hT1, hb1, hS1⟩
  have HT := Lib.hid hT1
  have HS := Lib.hid hS1
  have HB := Lib.hid hb1
  clear hT1 hS1 hb1
  go_wp2
  all_goals
    go_ret
    refine rnew_end HT.out HB.out HS.out ?_ ?_
    all_goals (first | unfold clampN | unfold clampH)
    all_goals omega

def addE (n h : Int) (L : List Pr) (p : Pf) (k : Int) : Int := if psane p = true then (if 0 ≤ k ∧ k ≤ 65535 then (if fitsB n h L p k = true then 0 else 3) else 4) else 1
def addQ (n h : Int) (L : List Pr) (p : Pf) (k : Int) : List Pr := if addE n h L p k = 0 then putL p k L else L
def addM (n h : Int) (L : List Pr) (p : Pf) (k : Int) (most : Nat) : Nat := if addE n h L p k = 0 then putM p k L most else most
/-- What a call that changes routes leaves. -/
def RibPost (r : Nat) (S : Nat → Prop) (w : World) (n h : Int) (L : List Pr) (most : Nat) (v : Value) (e : Ending) (w' : World) : Prop := e = .returned v ∧ ∃ S', RibS w' r S' n h L most ∧ Frm S w w' ∧ Sub S S' w.heap.size
section
variable {w : World} {r : Nat} {S : Nat → Prop} {n h : Int} {L : List Pr} {most : Nat}
theorem rib_same {w' : World} {v : Value} (H : RibS w r S n h L most) (hb : Below w.heap.size w w') : RibPost r S w n h L most v (.returned v) w' := ⟨rfl, S, H.keep hb, frm_of_below hb, Sub.refl _ _⟩
set_option maxHeartbeats 1000000 in
theorem add_no (H : RibS w r S n h L most) (p : Pf) (k : Int) (he : addE n h L p k ≠ 0) : Calls Try.prog 22 #[.pointer (some ⟨r, 0, none⟩), .agg #[.int .u64 (u p.a.hi), .int .u64 (u p.a.lo), .bool p.a.v6, .int .i64 p.n], .int .i64 k] w (RibPost r S w n h L most (.int .i64 (addE n h L p k))) := by
  have HH := Lib.hid H
  clear H
  cases hp : psane p
  · have e1 : addE n h L p k = 1 := by unfold addE; rw [hp]; rfl
    rw [e1]
    have hs' : (!psane p) = true := by simp [hp]
    clear hp e1 he
    go_enter Try.func22, Try.ntmps22
    go_wp2_with fail
    refine (psane_any p _).mono ?_
    rintro e w2 ⟨rfl, hw2⟩
    have zw2 := hw2.size
    have bw2 := below_of (w := w) (by go_grown) hw2
    try simp at zw2
    obtain ⟨p1a, p1b, p1c, p1g, p1d, p1e, p1f, p1h, p1z⟩ := cells4 (b := w.heap.size) hw2 (by go_size) (by go_simp <;> rfl) (by go_simp <;> rfl) (by go_simp <;> rfl) (by go_simp <;> rfl) (by go_simp <;> rfl) (by go_simp <;> rfl) (by go_simp <;> rfl) (by go_simp <;> rfl)
    clear hw2
    go_wp2
    go_ret
    exact rib_same HH.out bw2
  · have hs' : (!psane p) = false := by simp [hp]
    by_cases hk : 0 ≤ k ∧ k ≤ 65535
    · have e0 : fitsB n h L p k = false := by
        cases hf : fitsB n h L p k
        · rfl
        · exfalso
          apply he
          unfold addE
          rw [if_pos hp, if_pos hk, if_pos hf]
      have e1 : addE n h L p k = 3 := by unfold addE; rw [if_pos hp, if_pos hk, e0]; rfl
      rw [e1]
      have t1 : decide (k < 0) = false := by simp; omega
      have t2 : decide (65535 < k) = false := by simp; omega
      have HP := Lib.hid hp
      have HF := Lib.hid e0
      clear e1 he hp e0
      obtain ⟨t, m, S0, D, HA, hI, rfl⟩ := HH.out
      have HAA := Lib.hid HA
      have HI := Lib.hid hI
      clear HA hI
      go_enter Try.func22, Try.ntmps22
      go_wp2_with fail
      refine (psane_any p _).mono ?_
      rintro e w2 ⟨rfl, hw2⟩
      have zw2 := hw2.size
      have bw2 := below_of (w := w) (by go_grown) hw2
      try simp at zw2
      obtain ⟨p2a, p2b, p2c, p2g, p2d, p2e, p2f, p2h, p2z⟩ := cells4 (b := w.heap.size) hw2 (by go_size) (by go_simp <;> rfl) (by go_simp <;> rfl) (by go_simp <;> rfl) (by go_simp <;> rfl) (by go_simp <;> rfl) (by go_simp <;> rfl) (by go_simp <;> rfl) (by go_simp <;> rfl)
      clear hw2
      have cf := fits_any (HAA.out.keep bw2) HI.out p HP.out k hk
      rw [HF.out] at cf
      have CF := Lib.hid cf
      clear cf
      go_wp2_with fail
      refine (CF.out).mono ?_
      rintro e w3 ⟨rfl, hw3⟩
      have zw3 := hw3.size
      have bw3 := below_of (w := w) (by go_grown) hw3
      try simp at zw3
      have hw2b := below_of (w := w2) (by go_grown) hw3
      obtain ⟨p3a, p3b, p3c, p3g, p3d, p3e, p3f, p3h, p3z⟩ := cells4 hw2b p2z p2a p2b p2c p2g p2d p2e p2f p2h
      clear p2a p2b p2c p2g p2d p2e p2f p2h p2z hw3 hw2b
      go_wp2
      go_ret
      exact rib_same HH.out bw3
    · have e1 : addE n h L p k = 4 := by unfold addE; rw [if_pos hp, if_neg hk]
      rw [e1]
      have HK := Lib.hid hk
      clear hp e1 he hk
      by_cases h1 : k < 0
      · have t1 : decide (k < 0) = true := by simp; omega
        go_enter Try.func22, Try.ntmps22
        go_wp2_with fail
        refine (psane_any p _).mono ?_
        rintro e w2 ⟨rfl, hw2⟩
        have zw2 := hw2.size
        have bw2 := below_of (w := w) (by go_grown) hw2
        try simp at zw2
        obtain ⟨p4a, p4b, p4c, p4g, p4d, p4e, p4f, p4h, p4z⟩ := cells4 (b := w.heap.size) hw2 (by go_size) (by go_simp <;> rfl) (by go_simp <;> rfl) (by go_simp <;> rfl) (by go_simp <;> rfl) (by go_simp <;> rfl) (by go_simp <;> rfl) (by go_simp <;> rfl) (by go_simp <;> rfl)
        clear hw2
        go_wp2
        go_ret
        exact rib_same HH.out bw2
      · have t1 : decide (k < 0) = false := by simp; omega
        have t2 : decide (65535 < k) = true := by have := HK.out; simp; omega
        go_enter Try.func22, Try.ntmps22
        go_wp2_with fail
        refine (psane_any p _).mono ?_
        rintro e w2 ⟨rfl, hw2⟩
        have zw2 := hw2.size
        have bw2 := below_of (w := w) (by go_grown) hw2
        try simp at zw2
        obtain ⟨p5a, p5b, p5c, p5g, p5d, p5e, p5f, p5h, p5z⟩ := cells4 (b := w.heap.size) hw2 (by go_size) (by go_simp <;> rfl) (by go_simp <;> rfl) (by go_simp <;> rfl) (by go_simp <;> rfl) (by go_simp <;> rfl) (by go_simp <;> rfl) (by go_simp <;> rfl) (by go_simp <;> rfl)
        clear hw2
        go_wp2
        go_ret
        exact rib_same HH.out bw2
end

end Go.Proofs.Ytggceecolfebjaa

namespace Go.Proofs.Ytggceecolfebjaa
open Go.RowKit Go.Maps
set_option maxRecDepth 100000

section
variable {w w5 w6 : World} {r t m : Nat} {S0 S' : Nat → Prop} {D : DataW Unit} {n h : Int} {L L' : List Pr} {most M : Nat} {hs : List Int}
theorem ribS_sub (hl : r < w.heap.size) (hm : m < w.heap.size) (g3 : Sub S0 S' w5.heap.size) (hz : w.heap.size ≤ w5.heap.size) : Sub (ribS r m S0) (ribS r m S') w.heap.size := by
  rintro b (rfl | rfl | hb)
  · exact .inl (.inl rfl)
  · exact .inl (.inr (.inl rfl))
  · rcases g3 b hb with e | e
    · exact .inl (.inr (.inr e))
    · exact .inr (by omega)
/-- The tree has changed, and the counts with it. -/
theorem rib_end {v : Value} (H : RibA w5 r t m S0 D n h L most hs) (hl : r < w.heap.size) (hm : m < w.heap.size) (hh : hs.Perm (hopsL L')) (hI : Inv n h L') (hF : Frm (ribS r m S0) w w5)
    (g1 : Trie w6 t S' L' M) (g2 : Frm S0 w5 w6) (g3 : Sub S0 S' w5.heap.size) : RibPost r (ribS r m S0) w n h L' M v (.returned v) w6 := by
  have hz := hF.size
  have k1 : ¬ S' r := fun e => by
    rcases g3 r e with e | e
    · exact H.d1 e
    · omega
  have k2 : ¬ S' m := fun e => by
    rcases g3 m e with e | e
    · exact H.d2 e
    · omega
  refine ⟨rfl, ribS r m S', ⟨t, m, S', D, ⟨(g2.block r (by omega) H.d1).trans H.blk, g1, cnts_frm H.map g2 H.d2, H.uses.perm hh, k1, k2, H.d3⟩, hI, rfl⟩, ?_, ribS_sub hl hm g3 hz⟩
  exact hF.trans g2 (fun b hb => .inl (.inr (.inr hb)))
end
theorem inv_put {n h : Int} {L : List Pr} {p : Pf} {k : Int} (hI : Inv n h L) (hs : Srt L) (hp : psane p = true) (hk : 0 ≤ k ∧ k ≤ 65535) (hf : fitsB n h L p k = true) : Inv n h (putL p k L) := by
  unfold fitsB at hf
  simp only [Bool.and_eq_true, decide_eq_true_eq] at hf
  refine ⟨fun x hx => ?_, hI.n0, hI.h0, hf.1, hf.2⟩
  rcases (mem_put hs hp x).1 hx with rfl | ⟨h1, _⟩
  · exact hk
  · exact hI.hop x h1
theorem nodup_le_int : ∀ {a b : List Int}, a.Nodup → (∀ x ∈ a, x ∈ b) → a.length ≤ b.length := by
  intro a
  induction a with
  | nil => intro b _ _; exact Nat.zero_le _
  | cons x r ih =>
    intro b hd h
    obtain ⟨h1, h2⟩ := List.nodup_cons.1 hd
    have hx := h x List.mem_cons_self
    have := ih (b := b.erase x) h2 (fun y hy => (List.mem_erase_of_ne (show y ≠ x from fun e => h1 (e ▸ hy))).2 (h y (List.mem_cons_of_mem _ hy)))
    have e := List.length_erase_of_mem hx
    have e2 := List.length_pos_of_mem hx
    simp only [List.length_cons]
    omega
theorem unl_sub {a b : List Int} (h : ∀ x, x ∈ a → x ∈ b) : unl a ≤ unl b := by
  have key : ∀ l : List Int, ∃ d : List Int, d.Nodup ∧ (∀ x, x ∈ d ↔ x ∈ l) := by
    intro l
    induction l with
    | nil => exact ⟨[], List.nodup_nil, fun x => Iff.rfl⟩
    | cons y r ih =>
      obtain ⟨d, h1, h2⟩ := ih
      by_cases hy : y ∈ d
      · refine ⟨d, h1, fun x => ?_⟩
        rw [h2 x, List.mem_cons]
        exact ⟨.inr, fun e => e.elim (fun e => e ▸ (h2 y).1 hy) id⟩
      · refine ⟨y :: d, List.nodup_cons.2 ⟨hy, h1⟩, fun x => ?_⟩
        rw [List.mem_cons, List.mem_cons, h2 x]
  obtain ⟨da, a1, a2⟩ := key a
  obtain ⟨db, b1, b2⟩ := key b
  rw [← unl_dist a1 a2, ← unl_dist b1 b2]
  exact nodup_le_int a1 (fun x hx => (b2 x).2 (h x ((a2 x).1 hx)))
theorem inv_del {n h : Int} {L : List Pr} {p : Pf} (hI : Inv n h L) : Inv n h (delQ p L) := by
  unfold delQ
  split
  · refine ⟨fun x hx => hI.hop x ((mem_del x).1 hx).1, hI.n0, hI.h0, ?_, ?_⟩
    · have := List.length_filter_le (fun x : Pr => decide (x.p ≠ p)) L
      have h1 := hI.few
      unfold delL
      omega
    · have h1 := hI.like
      have h2 := unl_sub (a := hopsL (delL p L)) (b := hopsL L) (fun x hx => by
        obtain ⟨y, y1, y2⟩ := mem_hops.1 hx
        exact mem_hops.2 ⟨y, ((mem_del y).1 y1).1, y2⟩)
      omega
  · exact hI

section
variable {w : World} {r : Nat} {S : Nat → Prop} {n h : Int} {L : List Pr} {most : Nat}
set_option maxHeartbeats 2000000 in
theorem add_yes (H : RibS w r S n h L most) (hb : most + 128 ≤ 1000000000) (p : Pf) (k : Int) (he : addE n h L p k = 0) : Calls Try.prog 22 #[.pointer (some ⟨r, 0, none⟩), .agg #[.int .u64 (u p.a.hi), .int .u64 (u p.a.lo), .bool p.a.v6, .int .i64 p.n], .int .i64 k] w (fun e w' => RibPost r S w n h (putL p k L) (putM p k L most) (.int .i64 0) e w' ∧ putM p k L most ≤ most + 128) := by
  have hp : psane p = true := by
    cases hp : psane p
    · unfold addE at he
      rw [hp] at he
      cases he
    · rfl
  have hk : 0 ≤ k ∧ k ≤ 65535 := by
    by_cases hk : 0 ≤ k ∧ k ≤ 65535
    · exact hk
    · unfold addE at he
      rw [if_pos hp, if_neg hk] at he
      cases he
  have hf : fitsB n h L p k = true := by
    cases hf : fitsB n h L p k
    · unfold addE at he
      rw [if_pos hp, if_pos hk, hf] at he
      cases he
    · rfl
  obtain ⟨t, m, S0, D, HA, hI, rfl⟩ := H
  have hs := HA.tree.srt
  have hgl : getQ p L = lk L p := by unfold getQ; rw [if_pos hp]
  obtain ⟨G, hG⟩ : ∃ G, lk L p = G := ⟨_, rfl⟩
  rw [hG] at hgl
  have hhp := hops_put (v := k) hs hp
  have hlen : (hopsL L).length ≤ 4096 := by
    unfold hopsL
    rw [List.length_map]
    have := hI.few
    have := hI.n0
    omega
  have hII := inv_put hI hs hp hk hf
  have hs' : (!psane p) = false := by simp [hp]
  have t1 : decide (k < 0) = false := by simp; omega
  have t2 : decide (65535 < k) = false := by simp; omega
  have hrl := HA.lt
  have hml := World.ownsMap.lt HA.map
  have hpq : putQ p k L = putL p k L := by unfold putQ; rw [if_pos hp]
  have hpe : putE p = 0 := by unfold putE; rw [if_pos hp]
  have HAA := Lib.hid HA
  have HI := Lib.hid hI
  have HII := Lib.hid hII
  have HP := Lib.hid hp
  have HF := Lib.hid hf
  have HG := Lib.hid hgl
  have HGL := Lib.hid hG
  have HS := Lib.hid hs
  have HHP := Lib.hid hhp
  have HLN := Lib.hid hlen
  have HPQ := Lib.hid hpq
  have HPE := Lib.hid hpe
  clear HA hI hII hp hf hgl hG hs hhp hlen he hpq hpe
  go_enter Try.func22, Try.ntmps22
  go_wp2_with fail
  refine (psane_any p _).mono ?_
  rintro e w2 ⟨rfl, hw2⟩
  have zw2 := hw2.size
  have bw2 := below_of (w := w) (by go_grown) hw2
  try simp at zw2
  obtain ⟨p1a, p1b, p1c, p1g, p1d, p1e, p1f, p1h, p1z⟩ := cells4 (b := w.heap.size) hw2 (by go_size) (by go_simp <;> rfl) (by go_simp <;> rfl) (by go_simp <;> rfl) (by go_simp <;> rfl) (by go_simp <;> rfl) (by go_simp <;> rfl) (by go_simp <;> rfl) (by go_simp <;> rfl)
  clear hw2
  have cf := fits_any (HAA.out.keep bw2) HI.out p HP.out k hk
  rw [HF.out] at cf
  have CF := Lib.hid cf
  clear cf
  go_wp2_with fail
  refine (CF.out).mono ?_
  rintro e w3 ⟨rfl, hw3⟩
  have zw3 := hw3.size
  have bw3 := below_of (w := w) (by go_grown) hw3
  try simp at zw3
  have hw2b := below_of (w := w2) (by go_grown) hw3
  obtain ⟨p2a, p2b, p2c, p2g, p2d, p2e, p2f, p2h, p2z⟩ := cells4 hw2b p1z p1a p1b p1c p1g p1d p1e p1f p1h
  clear p1a p1b p1c p1g p1d p1e p1f p1h p1z hw3 hw2b
  have HPV : Hid (PBox w3 w.heap.size p) := Lib.hid ⟨p2a, p2b, p2c, p2g, p2d, p2e, p2f, p2h, p2z⟩
  have HV := Lib.hid (HAA.out.keep bw3)
  have bV := bw3
  clear p2a p2b p2c p2g p2d p2e p2f p2h p2z
  clear bw2 bw3 zw2 zw3 CF HAA
  have hld : (hopsL (delL p L)).length ≤ 4096 := by
    have h1 := HLN.out
    have h2 := List.length_filter_le (fun x : Pr => decide (x.p ≠ p)) L
    unfold hopsL at h1 ⊢
    rw [List.length_map] at h1 ⊢
    unfold delL
    omega
  have HLD := Lib.hid hld
  clear hld
  obtain ⟨W, rfl⟩ : ∃ W, W = w3 := ⟨_, rfl⟩
  have rz := HV.out.lt
  obtain ⟨c0, -, -, -⟩ := HV.out.cells
  obtain ⟨pa, pb, pc, pd, -, -, -, -, pz⟩ := id HPV.out
  have L0 := fun x : Later W.heap.size W => (x.cell rz).trans c0
  have La := fun x : Later W.heap.size W => (x.cell pz).trans pa
  have Lb := fun x : Later W.heap.size W => (x.cell pz).trans pb
  have Lc := fun x : Later W.heap.size W => (x.cell pz).trans pc
  have Ld := fun x : Later W.heap.size W => (x.cell pz).trans pd
  have cg : ∀ x : Later W.heap.size W, Calls Try.prog 45 #[.pointer (some ⟨t, 0, none⟩), .agg #[.int .u64 (u p.a.hi), .int .u64 (u p.a.lo), .bool p.a.v6, .int .i64 p.n]] x.at fun e w' => e = .returned (.tuple #[.int .i64 (G.getD 0), .bool G.isSome]) ∧ Below x.at.heap.size x.at w' := fun x => by
    have := trie_get (HV.out.keep x.below).tree p
    rw [HG.out] at this
    exact this
  have CG := Lib.hid cg
  clear cg
  go_wp2_with fail
  refine region_later W.heap.size (by kernel_rfl) (by kernel_rfl) ?_
  repeat (go_big_quiet_step (first | (go_at_call 45; exact later_of (Nat.le_refl _) (CG.out _)) | (go_at_call 79; exact later_same (routes_any (HV.out.keep (Later.below _))))))
  refine wpQuiet_nil ?_
  intro x
  have hx := x.below
  generalize x.at = V at hx ⊢
  clear x L0 La Lb Lc Ld c0 pa pb pc pd CG
  have HR := Lib.hid (HV.out.keep hx)
  have HPR := Lib.hid (HPV.out.keep hx)
  have bR := bV.trans (hx.mono bV.size)
  clear hx HV HPV rz pz
  cases G with
  | none =>
    have hRn : RibA V r t m S0 D n h L most (hopsL (delL p L)) := by rw [del_none HGL.out]; exact HR.out
    have HRN := Lib.hid hRn
    have hFn : Frm (ribS r m S0) w V := frm_of_below bR
    clear hRn HR
    go_upto_region 10 with fail
    have HR6 : Hid (RibA V r t m S0 D n h L most (hopsL (delL p L))) := HRN
    obtain ⟨c0, c1, -, -⟩ := HR6.out.cells
    have lk1 := HR6.out.look hk
    have hown := HR6.out.map
    have hcl := count_le (hopsL (delL p L)) k
    have hle : (hopsL (delL p L)).length ≤ 4096 := HLD.out
    have hsz : Maps.size D ≤ 4096 := by
      rw [HR6.out.uses.size]
      have := unl_le (hopsL (delL p L))
      omega
    obtain ⟨c, hc⟩ : ∃ c, (hopsL (delL p L)).count k = c := ⟨_, rfl⟩
    have hus := HR6.out.uses.use k
    rw [hc] at lk1 hcl hus
    have hc9 : (c : Int) + 1 ≤ 5000 := by omega
    have hwf : (Lit.int .i64 ((c : Int) + 1)).wf = true := WalkArith.wf_i64 (by omega)
    have HUS := Lib.hid hus
    have HWF := Lib.hid hwf
    have HO := Lib.hid hown
    have HK := Lib.hid (keyOf_int_mk Try.underlying3 (wf_hop hk))
    clear hus hwf hown hc hcl hle
    go_wp2_with (first
      | (at_mapUpdate; refine wpList_mapUpdate_in _ rfl _ _ _ 88 rfl 3 3 lawI Try.underlying88 (plainElem (H := Unit) Try.prog 3) m _ D rfl HO.out (by unfold maxLen; omega) _ _ _ rfl rfl HK.out _ [] (plainElem_int Try.underlying3 HWF.out) ?_; intro w6 hown1 hturn1; have HO1 := Lib.hid hown1; have HT1 := Lib.hid hturn1; clear hown1 hturn1)
      | fail)
    have HR7 := Lib.hid (HR6.out.turned HT1.out HO1.out HUS.out)
    have HP7 := Lib.hid ((HPR).out.frm (frm_turned HT1.out) (fun e => by omega))
    have hF7 : Frm (ribS r m S0) w w6 := (hFn).trans (frm_turned HT1.out) (fun b hb => .inl (.inr (.inl hb)))
    clear HO1 HT1 HUS HO HR6 c0 c1 lk1
    obtain ⟨W, rfl⟩ : ∃ W, W = w6 := ⟨_, rfl⟩
    have rz := HR7.out.lt
    obtain ⟨c0, -, -, -⟩ := HR7.out.cells
    obtain ⟨pa, pb, pc, pd, -, -, -, -, pz⟩ := id HP7.out
    have L0 := fun x : Later W.heap.size W => (x.cell rz).trans c0
    have La := fun x : Later W.heap.size W => (x.cell pz).trans pa
    have Lb := fun x : Later W.heap.size W => (x.cell pz).trans pb
    have Lc := fun x : Later W.heap.size W => (x.cell pz).trans pc
    have Ld := fun x : Later W.heap.size W => (x.cell pz).trans pd
    go_frame
    refine region_tail 6 W.heap.size (by kernel_rfl) (by kernel_rfl) ?_
    simp only [List.take_succ_cons, List.take_zero, List.drop_succ_cons, List.drop_zero]
    repeat (go_big_quiet_step (fail))
    refine wpQuiet_nil ?_
    intro x
    have hx := x.below
    generalize x.at = V8 at hx ⊢
    clear x L0 La Lb Lc Ld c0 pa pb pc pd
    have HR8 := Lib.hid (HR7.out.keep hx)
    have hF8 := hF7.then hx
    clear hx HR7 HP7 rz pz
    go_wp2_with fail
    refine (trie_put HR8.out.tree hb p k).mono ?_
    rw [HPQ.out, HPE.out]
    rintro e w9 ⟨⟨rfl, S9, g1, g2, g3⟩, g4⟩
    have G1 := Lib.hid g1
    have G2 := Lib.hid g2
    have G3 := Lib.hid g3
    clear g1 g2 g3
    go_wp2
    go_ret
    exact ⟨rib_end HR8.out hrl hml HHP.out.symm HII.out hF8 G1.out G2.out G3.out, g4⟩
  | some o =>
    have ho : 0 ≤ o ∧ o ≤ 65535 := HI.out.hop _ (lk_mem HGL.out)
    have hpm := hops_del HS.out HGL.out
    have hRo : RibA V r t m S0 D n h L most (o :: hopsL (delL p L)) := { HR.out with uses := HR.out.uses.perm hpm }
    have cr := release_any hRo ho (by have := HLD.out; omega)
    have CR := Lib.hid cr
    clear hRo cr hpm
    go_wp2_with fail
    refine CR.out.mono ?_
    rintro e w5 ⟨rfl, D', hR5, hf5⟩
    have HPB := Lib.hid (HPR.out.frm hf5 (fun e => by omega))
    have hF5 : Frm (ribS r m S0) w w5 := (frm_of_below bR).trans hf5 (fun b hb => .inl (.inr (.inl hb)))
    have HR5 := Lib.hid hR5
    clear hR5 hf5 CR HPR HR
    have HR6 : Hid (RibA w5 r t m S0 D' n h L most (hopsL (delL p L))) := HR5
    obtain ⟨c0, c1, -, -⟩ := HR6.out.cells
    have lk1 := HR6.out.look hk
    have hown := HR6.out.map
    have hcl := count_le (hopsL (delL p L)) k
    have hle : (hopsL (delL p L)).length ≤ 4096 := HLD.out
    have hsz : Maps.size D' ≤ 4096 := by
      rw [HR6.out.uses.size]
      have := unl_le (hopsL (delL p L))
      omega
    obtain ⟨c, hc⟩ : ∃ c, (hopsL (delL p L)).count k = c := ⟨_, rfl⟩
    have hus := HR6.out.uses.use k
    rw [hc] at lk1 hcl hus
    have hc9 : (c : Int) + 1 ≤ 5000 := by omega
    have hwf : (Lit.int .i64 ((c : Int) + 1)).wf = true := WalkArith.wf_i64 (by omega)
    have HUS := Lib.hid hus
    have HWF := Lib.hid hwf
    have HO := Lib.hid hown
    have HK := Lib.hid (keyOf_int_mk Try.underlying3 (wf_hop hk))
    clear hus hwf hown hc hcl hle
    go_wp2_with (first
      | (at_mapUpdate; refine wpList_mapUpdate_in _ rfl _ _ _ 88 rfl 3 3 lawI Try.underlying88 (plainElem (H := Unit) Try.prog 3) m _ D' rfl HO.out (by unfold maxLen; omega) _ _ _ rfl rfl HK.out _ [] (plainElem_int Try.underlying3 HWF.out) ?_; intro w6 hown1 hturn1; have HO1 := Lib.hid hown1; have HT1 := Lib.hid hturn1; clear hown1 hturn1)
      | fail)
    have HR7 := Lib.hid (HR6.out.turned HT1.out HO1.out HUS.out)
    have HP7 := Lib.hid ((HPB).out.frm (frm_turned HT1.out) (fun e => by omega))
    have hF7 : Frm (ribS r m S0) w w6 := (hF5).trans (frm_turned HT1.out) (fun b hb => .inl (.inr (.inl hb)))
    clear HO1 HT1 HUS HO HR6 c0 c1 lk1
    obtain ⟨W, rfl⟩ : ∃ W, W = w6 := ⟨_, rfl⟩
    have rz := HR7.out.lt
    obtain ⟨c0, -, -, -⟩ := HR7.out.cells
    obtain ⟨pa, pb, pc, pd, -, -, -, -, pz⟩ := id HP7.out
    have L0 := fun x : Later W.heap.size W => (x.cell rz).trans c0
    have La := fun x : Later W.heap.size W => (x.cell pz).trans pa
    have Lb := fun x : Later W.heap.size W => (x.cell pz).trans pb
    have Lc := fun x : Later W.heap.size W => (x.cell pz).trans pc
    have Ld := fun x : Later W.heap.size W => (x.cell pz).trans pd
    go_frame
    refine region_tail 6 W.heap.size (by kernel_rfl) (by kernel_rfl) ?_
    simp only [List.take_succ_cons, List.take_zero, List.drop_succ_cons, List.drop_zero]
    repeat (go_big_quiet_step (fail))
    refine wpQuiet_nil ?_
    intro x
    have hx := x.below
    generalize x.at = V8 at hx ⊢
    clear x L0 La Lb Lc Ld c0 pa pb pc pd
    have HR8 := Lib.hid (HR7.out.keep hx)
    have hF8 := hF7.then hx
    clear hx HR7 HP7 rz pz
    go_wp2_with fail
    refine (trie_put HR8.out.tree hb p k).mono ?_
    rw [HPQ.out, HPE.out]
    rintro e w9 ⟨⟨rfl, S9, g1, g2, g3⟩, g4⟩
    have G1 := Lib.hid g1
    have G2 := Lib.hid g2
    have G3 := Lib.hid g3
    clear g1 g2 g3
    go_wp2
    go_ret
    exact ⟨rib_end HR8.out hrl hml HHP.out.symm HII.out hF8 G1.out G2.out G3.out, g4⟩
end

end Go.Proofs.Ytggceecolfebjaa

namespace Go.Proofs.Ytggceecolfebjaa
open Go.RowKit Go.Maps
set_option maxRecDepth 100000

section
variable {w : World} {r : Nat} {S : Nat → Prop} {n h : Int} {L : List Pr} {most : Nat}
theorem rib_add (H : RibS w r S n h L most) (hb : most + 128 ≤ 1000000000) (p : Pf) (k : Int) : Calls Try.prog 22 #[.pointer (some ⟨r, 0, none⟩), .agg #[.int .u64 (u p.a.hi), .int .u64 (u p.a.lo), .bool p.a.v6, .int .i64 p.n], .int .i64 k] w (fun e w' => RibPost r S w n h (addQ n h L p k) (addM n h L p k most) (.int .i64 (addE n h L p k)) e w' ∧ addM n h L p k most ≤ most + 128) := by
  by_cases he : addE n h L p k = 0
  · have := add_yes H hb p k he
    unfold addQ addM
    rw [if_pos he, if_pos he, he]
    exact this
  · have := add_no H p k he
    unfold addQ addM
    rw [if_neg he, if_neg he]
    exact this.mono fun e w' hh => ⟨hh, Nat.le_add_right _ _⟩

end

end Go.Proofs.Ytggceecolfebjaa

namespace Go.Proofs.Ytggceecolfebjaa
open Go.RowKit
set_option maxRecDepth 100000

/-- A struct's type of a pair's five cells, and that of its slices. -/
structure Five (E SL : TypeId) : Prop where
  info : (Try.prog.info? E).map (fun i => (i.zero, i.size, i.bytes)) = some (some (.agg #[.int .u64 0, .int .u64 0, .bool false, .int .i64 0, .int .i64 0]), 5, 40)
  sl : Try.prog.underlying SL = some (.slice E)
theorem five_pair : Five 133 130 := ⟨by kernel_rfl, Try.underlying130⟩
theorem five_ref : Five 127 31 := ⟨by kernel_rfl, Try.underlying31⟩
theorem five_route : Five 65 22 := ⟨by kernel_rfl, Try.underlying22⟩
theorem row_cell {E : TypeId} {w : World} {base n : Nat} {v : Value} {l : List Pr} (h : w.ownsRow base E 5 v n (prv l)) (hn : n = l.length) {k : Nat} (hk : k < l.length) : ∃ g c, v = .slice (some ⟨g, 0, none⟩) n c ∧ base ≤ g ∧ g < w.heap.size ∧ ∀ j, j < 5 → w.cell? ⟨g, k * 5 + j, none⟩ = (pr5 l[k])[j]? := by
  obtain ⟨g, cap, rfl, hb, hlt⟩ := h.form (by omega)
  refine ⟨g, cap, rfl, hb, hlt, fun j hj => ?_⟩
  rw [h.cellAt (k * 5 + j) (by omega), prv_at l k hk j hj]
/-- Rows laid behind rows. -/
theorem fives_append {E SL : TypeId} (F : Five E SL) (W : World) (base base' : Nat) (v v2 : Value) (a b : List Pr) (ty : TypeId) (hown : W.ownsRow base E 5 v a.length (prv a)) (h2 : W.ownsRow base' E 5 v2 b.length (prv b)) (hb : a.length + b.length ≤ 1000000000) (hbase : base ≤ W.heap.size) :
    ∃ v' w', (Builtin.append_ #[SL, SL] ty #[v, v2]).run Try.prog W = .ok v' w' ∧ w'.ownsRow base E 5 v' (a ++ b).length (prv (a ++ b)) ∧ W.grownBy w' v.ownBlock := by
  obtain ⟨i0, hi0, hz0, hz1, hz2⟩ := info_parts F.info
  rcases h2.2 with ⟨rfl, hn⟩ | ⟨g, cap, cur, rfl, _, hg, hnc, hm, hs, ht⟩
  · have e : b = [] := List.eq_nil_of_length_eq_zero hn
    subst e
    refine ⟨v, W, ?_, by simpa using hown, World.grownBy.refl W _⟩
    rcases hown.2 with ⟨rfl, h0⟩ | ⟨g, cap, cur, rfl, _, _, hnc, _⟩
    · simp [Builtin.append_, run_underlying F.sl, sizeOf, typeInfo, hi0, Builtin.lenOf, Builtin.firstCells]
    · simp [Builtin.append_, run_underlying F.sl, sizeOf, typeInfo, hi0, Builtin.lenOf, Builtin.firstCells, hnc, storeCells]
  · obtain ⟨v', w', e1, e2, e3, _, _⟩ := run_append_own_at (P := Try.prog) W base SL ty E i0 _ 5 40 F.sl hi0 hz0 hz1 hz2 rfl (by omega) v a.length _ hown ⟨g, 0, none⟩ b.length cap (prv b) (prv_len b) (h2.cells (g := g) rfl) (by
      intro u hu
      unfold prv at hu
      obtain ⟨x, _, hx⟩ := List.mem_flatMap.1 hu
      exact pr5_cell x u hx) (by simp only [maxLen]; omega) (by omega) hbase
    exact ⟨v', w', e1, by rw [prv_append, List.length_append]; exact e2, e3⟩
section
variable {ops : Array Oper} {o : Oper} {a : Act} {w : World} {Q : Exit → Act → World → Prop}
theorem wpList_fives {E SL : TypeId} (F : Five E SL) {rest : List Oper} (hgd : o.guard = none) (s x : Operand) (ho : o.op = .call { callee := .builtin .append, args := #[s, x], argTypes := #[SL, SL] }) (base base' : Nat) (v v2 : Value) (l m : List Pr) (hs : a.eval s = v) (hx : a.eval x = v2) (hown : w.ownsRow base E 5 v l.length (prv l)) (h2 : w.ownsRow base' E 5 v2 m.length (prv m))
    (hb : l.length + m.length ≤ 1000000000) (hbase : base ≤ w.heap.size)
    (h : ∀ v' w', w'.ownsRow base E 5 v' (l ++ m).length (prv (l ++ m)) → Below base w w' → wpList Try.prog ops Q rest (a.put o.dst v') w') : wpList Try.prog ops Q (o :: rest) a w := by
  refine wpList_plain hgd fun _ hK => ?_
  obtain ⟨v', w', e1, e2, e3⟩ := fives_append F w base base' v v2 l m o.type hown h2 hb hbase
  unfold Oper.wp execOp
  simp only [ho, resolve, invoke, builtin, Sem.run_bind, Sem.run_pure, Result.andThen_ok, List.map_toArray, List.map_cons, List.map_nil, hs, hx, e1]
  exact hK _ _ (h v' w' e2 ((Below.refl base w).grown e3 hbase (own_ge hown)))
theorem wpList_five1 {E SL : TypeId} (F : Five E SL) {rest : List Oper} (hgd : o.guard = none) (s x : Operand) (ho : o.op = .call { callee := .builtin .append, args := #[s, x], argTypes := #[SL, SL] }) (base : Nat) (v : Value) (n : Nat) (l : List Pr) (hn : n = l.length) (hs : a.eval s = v)
    (hown : w.ownsRow base E 5 v n (prv l)) (g : Nat) (r : Pr) (hx : a.eval x = .slice (some ⟨g, 0, none⟩) 1 1) (hg : w.heap[g]? = some (.cells (pr5 r).toArray E (0, 0))) (hb : n ≤ 1000000000) (hbase : base ≤ w.heap.size)
    (h : ∀ v' w', w'.ownsRow base E 5 v' (n + 1) (prv (l ++ [r])) → Below base w w' → wpList Try.prog ops Q rest (a.put o.dst v') w') : wpList Try.prog ops Q (o :: rest) a w := by
  subst hn
  obtain ⟨i0, hi0, hz0, hz1, hz2⟩ := info_parts F.info
  refine wpList_append_own w hgd s x _ ho base E i0 _ 5 40 F.sl hi0 hz0 hz1 hz2 rfl (by omega) v _ _ hs hown ⟨g, 0, none⟩ 1 1 (pr5 r) hx rfl (World.news_of_block (cs := (pr5 r).toArray) hg) (pr5_cell _) (by simp only [maxLen]; omega) (by omega) hbase ?_
  intro v' w' h1 h2 _
  refine h v' w' ?_ ((Below.refl base w).grown h2 hbase (own_ge hown))
  rw [prv_append, prv_one]
  exact h1
end

theorem y5_then {G : Prop} {W w1 : World} {b : Nat} {c0 c1 c2 c3 c4 : Value} (hb : Below W.heap.size W w1) (hlt : b < W.heap.size) (h0 : W.cell? ⟨b, 0, none⟩ = some c0) (h1 : W.cell? ⟨b, 1, none⟩ = some c1) (h2 : W.cell? ⟨b, 2, none⟩ = some c2) (h3 : W.cell? ⟨b, 3, none⟩ = some c3) (h4 : W.cell? ⟨b, 4, none⟩ = some c4)
    (f0 : W.frozen? ⟨b, 0, none⟩ = false) (f1 : W.frozen? ⟨b, 1, none⟩ = false) (f2 : W.frozen? ⟨b, 2, none⟩ = false) (f3 : W.frozen? ⟨b, 3, none⟩ = false) (f4 : W.frozen? ⟨b, 4, none⟩ = false)
    (k : w1.cell? ⟨b, 0, none⟩ = some c0 ∧ w1.cell? ⟨b, 1, none⟩ = some c1 ∧ w1.cell? ⟨b, 2, none⟩ = some c2 ∧ w1.cell? ⟨b, 3, none⟩ = some c3 ∧ w1.cell? ⟨b, 4, none⟩ = some c4 ∧
      w1.frozen? ⟨b, 0, none⟩ = false ∧ w1.frozen? ⟨b, 1, none⟩ = false ∧ w1.frozen? ⟨b, 2, none⟩ = false ∧ w1.frozen? ⟨b, 3, none⟩ = false ∧ w1.frozen? ⟨b, 4, none⟩ = false ∧ b < w1.heap.size → G) : G :=
  k ⟨(hb.cell (p := ⟨b, 0, none⟩) hlt).trans h0, (hb.cell (p := ⟨b, 1, none⟩) hlt).trans h1, (hb.cell (p := ⟨b, 2, none⟩) hlt).trans h2, (hb.cell (p := ⟨b, 3, none⟩) hlt).trans h3, (hb.cell (p := ⟨b, 4, none⟩) hlt).trans h4,
    (hb.frozen (p := ⟨b, 0, none⟩) hlt).trans f0, (hb.frozen (p := ⟨b, 1, none⟩) hlt).trans f1, (hb.frozen (p := ⟨b, 2, none⟩) hlt).trans f2, (hb.frozen (p := ⟨b, 3, none⟩) hlt).trans f3, (hb.frozen (p := ⟨b, 4, none⟩) hlt).trans f4, Nat.lt_of_lt_of_le hlt hb.size⟩

end Go.Proofs.Ytggceecolfebjaa

namespace Go.Proofs.Ytggceecolfebjaa
open Go.RowKit Go.Maps
set_option maxRecDepth 100000

/-- A pair lies in a block. -/
def QBox (w : World) (b : Nat) (x : Pr) : Prop := w.cell? ⟨b, 0, none⟩ = some (.int .u64 (u x.p.a.hi)) ∧ w.cell? ⟨b, 1, none⟩ = some (.int .u64 (u x.p.a.lo)) ∧ w.cell? ⟨b, 2, none⟩ = some (.bool x.p.a.v6) ∧ w.cell? ⟨b, 3, none⟩ = some (.int .i64 x.p.n) ∧ w.cell? ⟨b, 4, none⟩ = some (.int .i64 x.v) ∧ b < w.heap.size
theorem keep3L {W w' : World} {b : Nat} {c0 c1 c2 : Value} (h : Below W.heap.size W w') (hlt : b < W.heap.size) (h0 : W.cell? ⟨b, 0, none⟩ = some c0) (h1 : W.cell? ⟨b, 1, none⟩ = some c1) (h2 : W.cell? ⟨b, 2, none⟩ = some c2) :
    w'.cell? ⟨b, 0, none⟩ = some c0 ∧ w'.cell? ⟨b, 1, none⟩ = some c1 ∧ w'.cell? ⟨b, 2, none⟩ = some c2 ∧ Below W.heap.size W w' := ⟨(h.cell (p := ⟨b, 0, none⟩) hlt).trans h0, (h.cell (p := ⟨b, 1, none⟩) hlt).trans h1, (h.cell (p := ⟨b, 2, none⟩) hlt).trans h2, h⟩

section
variable {w : World} {r : Nat} {S : Nat → Prop} {n h : Int} {L : List Pr} {most : Nat}
set_option maxHeartbeats 1000000 in
theorem rib_inside (H : RibS w r S n h L most) (p : Pf) : Calls Try.prog 52 #[.pointer (some ⟨r, 0, none⟩), .agg #[.int .u64 (u p.a.hi), .int .u64 (u p.a.lo), .bool p.a.v6, .int .i64 p.n]] w fun e w' => e = .returned (.bool (L.any fun x => pins p x.p)) ∧ Below w.heap.size w w' := by
  obtain ⟨t, m, S0, D, HA, hI, rfl⟩ := H
  have HAA := Lib.hid HA
  clear HA hI
  obtain ⟨I, hIn⟩ : ∃ I, (L.any fun x => pins p x.p) = I := ⟨_, rfl⟩
  rw [hIn]
  have HIN := Lib.hid hIn
  clear hIn
  go_enter Try.func52, Try.ntmps52
  go_wp2_with fail
  generalize hW : World.alloc _ _ = W
  have hz : w.heap.size ≤ W.heap.size := by subst hW; go_size
  have hB : Below w.heap.size w W := by subst hW; go_grown
  have hpb : PBox W w.heap.size p := by subst hW; exact ⟨by go_simp <;> rfl, by go_simp <;> rfl, by go_simp <;> rfl, by go_simp <;> rfl, by go_simp <;> rfl, by go_simp <;> rfl, by go_simp <;> rfl, by go_simp <;> rfl, by go_size⟩
  obtain ⟨pa, pb, pc, pd, -, -, -, -, pz⟩ := hpb
  have HV := Lib.hid (HAA.out.keep hB)
  clear hW
  have La := fun x : Later W.heap.size W => (x.cell pz).trans pa
  have Lb := fun x : Later W.heap.size W => (x.cell pz).trans pb
  have Lc := fun x : Later W.heap.size W => (x.cell pz).trans pc
  have Ld := fun x : Later W.heap.size W => (x.cell pz).trans pd
  have cg : ∀ x : Later W.heap.size W, Calls Try.prog 80 #[.pointer (some ⟨t, 0, none⟩), .agg #[.int .u64 (u p.a.hi), .int .u64 (u p.a.lo), .bool p.a.v6, .int .i64 p.n]] x.at fun e w' => e = .returned (.bool I) ∧ Below x.at.heap.size x.at w' := fun x => by
    have := trie_inside (HV.out.keep x.below).tree p
    rw [HIN.out] at this
    exact this
  have CG := Lib.hid cg
  clear cg
  refine region_later W.heap.size (by kernel_rfl) (by kernel_rfl) ?_
  repeat (go_big_quiet_step (first | (go_at_call 80; exact later_of (Nat.le_refl _) (CG.out _)) | (go_at_call 79; exact later_same (routes_any (HV.out.keep (Later.below _))))))
  refine wpQuiet_nil ?_
  intro x
  have hx := x.below
  generalize x.at = V at hx ⊢
  clear x La Lb Lc Ld pa pb pc pd CG
  go_wp2
  go_ret
  exact ⟨rfl, hB.trans (hx.mono hz)⟩

set_option maxHeartbeats 1000000 in
theorem route_any (x : Pr) (w : World) : Calls Try.prog 83 #[.agg #[.int .u64 (u x.p.a.hi), .int .u64 (u x.p.a.lo), .bool x.p.a.v6, .int .i64 x.p.n, .int .i64 x.v]] w fun e w' => e = .returned (.agg #[.int .u64 (u x.p.a.hi), .int .u64 (u x.p.a.lo), .bool x.p.a.v6, .int .i64 x.p.n, .int .i64 x.v]) ∧ Below w.heap.size w w' := by
  go_enter Try.func83, Try.ntmps83
  go_wp2
  refine bodyPost_ret (v := .agg #[.int .u64 (u x.p.a.hi), .int .u64 (u x.p.a.lo), .bool x.p.a.v6, .int .i64 x.p.n, .int .i64 x.v]) (by simp [*, results, Try.results83, go_sem] <;> rfl) rfl ⟨rfl, ?_⟩
  go_grown
def qv (x : Pr) : Value := .agg #[.int .u64 (u x.p.a.hi), .int .u64 (u x.p.a.lo), .bool x.p.a.v6, .int .i64 x.p.n, .int .i64 x.v]
def OptPost (w : World) (o : Option Pr) (e : Ending) (w' : World) : Prop := e = .returned (.tuple #[.agg #[.int .u64 (u (o.getD nilPr).p.a.hi), .int .u64 (u (o.getD nilPr).p.a.lo), .bool (o.getD nilPr).p.a.v6, .int .i64 (o.getD nilPr).p.n, .int .i64 (o.getD nilPr).v], .bool o.isSome]) ∧ Below w.heap.size w w'

end

end Go.Proofs.Ytggceecolfebjaa

namespace Go.Proofs.Ytggceecolfebjaa
open Go.RowKit Go.Maps
set_option maxRecDepth 100000

section
variable {w : World} {r : Nat} {S : Nat → Prop} {n h : Int} {L : List Pr} {most : Nat}
/-- The last one that covers a prefix. -/
def govL (L : List Pr) (p : Pf) : Option Pr := (L.filter fun x => pcov x.p p).getLast?
set_option maxHeartbeats 2000000 in
theorem rib_governs (H : RibS w r S n h L most) (p : Pf) : Calls Try.prog 54 #[.pointer (some ⟨r, 0, none⟩), .agg #[.int .u64 (u p.a.hi), .int .u64 (u p.a.lo), .bool p.a.v6, .int .i64 p.n]] w (OptPost w (govL L p)) := by
  obtain ⟨t, m, S0, D, HA, hI, rfl⟩ := H
  have hln : L.length ≤ 4096 := by have := hI.few; have := hI.n0; omega
  have HAA := Lib.hid HA
  clear HA hI
  have hfl := List.length_filter_le (fun x : Pr => pcov x.p p) L
  unfold govL
  obtain ⟨F, hF⟩ : ∃ F, (L.filter fun x => pcov x.p p) = F := ⟨_, rfl⟩
  have ca : ∀ W, RibA W r t m S0 D n h L most (hopsL L) → Calls Try.prog 82 #[.pointer (some ⟨t, 0, none⟩), .agg #[.int .u64 (u p.a.hi), .int .u64 (u p.a.lo), .bool p.a.v6, .int .i64 p.n]] W (ListPost W F) := fun W hA => by
    have := trie_above hA.tree p
    rw [hF] at this
    exact this
  rw [hF] at hfl ⊢
  have CA := Lib.hid ca
  clear ca hF
  go_enter Try.func54, Try.ntmps54
  go_wp2_with fail
  generalize hW : World.alloc _ _ = W
  have hz : w.heap.size ≤ W.heap.size := by subst hW; go_size
  have hB : Below w.heap.size w W := by subst hW; go_grown
  have hpb : PBox W w.heap.size p := by subst hW; exact ⟨by go_simp <;> rfl, by go_simp <;> rfl, by go_simp <;> rfl, by go_simp <;> rfl, by go_simp <;> rfl, by go_simp <;> rfl, by go_simp <;> rfl, by go_simp <;> rfl, by go_size⟩
  have h3 : W.heap[w.heap.size + 1]? = some (.cells #[.int .u64 0, .int .u64 0, .bool false, .int .i64 0, .int .i64 0] 65 (0, 0)) := by subst hW; repeat (first | (refine hp_new ?_; (simp; done)) | (refine hp_old ?_ ?_; · (first | (simp; done) | (simp; omega))))
  have z9 := lt_of_block h3
  obtain ⟨pa, pb, pc, pd, -, -, -, -, pz⟩ := hpb
  have HV := Lib.hid (HAA.out.keep hB)
  clear hW HAA
  have La := fun x : Later W.heap.size W => (x.cell pz).trans pa
  have Lb := fun x : Later W.heap.size W => (x.cell pz).trans pb
  have Lc := fun x : Later W.heap.size W => (x.cell pz).trans pc
  have Ld := fun x : Later W.heap.size W => (x.cell pz).trans pd
  refine region_tail 3 W.heap.size (by kernel_rfl) (by kernel_rfl) ?_
  simp only [List.take_succ_cons, List.take_zero, List.drop_succ_cons, List.drop_zero]
  repeat (go_big_quiet_step ((go_at_call 79; exact later_same (routes_any (HV.out.keep (Later.below _))))))
  refine wpQuiet_nil ?_
  intro x
  have hx := x.below
  generalize x.at = V at hx ⊢
  clear x La Lb Lc Ld pa pb pc pd
  have HV2 := Lib.hid (HV.out.keep hx)
  have bV := hB.trans (hx.mono hz)
  have hV3 := (hx.block _ z9).trans h3
  have vz := hx.size
  clear hx HV h3 hB pz
  go_wp2_with fail
  refine (CA.out _ HV2.out).mono ?_
  rintro e w5 ⟨v5, rfl, ho5, hw5⟩
  have b5 := bV.trans (hw5.mono bV.size)
  have h5 := (hw5.block (w.heap.size + 1) (by omega)).trans hV3
  have z5 := hw5.size
  have HO := Lib.hid ho5
  obtain ⟨A5, c5, rfl, -⟩ := own_val ho5
  clear ho5 hw5 HV2 CA hV3 bV
  rcases Nat.eq_zero_or_pos F.length with hl | hl
  · have hF0 : F = [] := List.eq_nil_of_length_eq_zero hl
    subst hF0
    have r0 : w5.cell? ⟨w.heap.size + 1, 0, none⟩ = some (.int .u64 0) := by rw [cell_row h5]; rfl
    have r1 : w5.cell? ⟨w.heap.size + 1, 1, none⟩ = some (.int .u64 0) := by rw [cell_row h5]; rfl
    have r2 : w5.cell? ⟨w.heap.size + 1, 2, none⟩ = some (.bool false) := by rw [cell_row h5]; rfl
    have r3 : w5.cell? ⟨w.heap.size + 1, 3, none⟩ = some (.int .i64 0) := by rw [cell_row h5]; rfl
    have r4 : w5.cell? ⟨w.heap.size + 1, 4, none⟩ = some (.int .i64 0) := by rw [cell_row h5]; rfl
    have q0 := frozen_of_row w5 (w.heap.size + 1) 0 _ _ h5
    have q1 := frozen_of_row w5 (w.heap.size + 1) 1 _ _ h5
    have q2 := frozen_of_row w5 (w.heap.size + 1) 2 _ _ h5
    have q3 := frozen_of_row w5 (w.heap.size + 1) 3 _ _ h5
    have q4 := frozen_of_row w5 (w.heap.size + 1) 4 _ _ h5
    clear h5
    go_wp2
    refine bodyPost_ret (v := .tuple #[.agg #[.int .u64 0, .int .u64 0, .bool false, .int .i64 0, .int .i64 0], .bool false]) (by simp [*, results, Try.results54, go_sem] <;> rfl) rfl ⟨rfl, ?_⟩
    exact b5.trans (((((((Below.refl _ _).setCell (by simp) _).setCell (by simp) _).setCell (by simp) _).setCell (by simp) _).setCell (by simp) _))
  · obtain ⟨k, hk⟩ : ∃ k, F.length = k + 1 := ⟨F.length - 1, by omega⟩
    have hkl : k < F.length := by omega
    have hgo : F.getLast? = some F[k] := by
      rw [List.getLast?_eq_getElem?, hk, Nat.add_sub_cancel, List.getElem?_eq_getElem hkl]
    obtain ⟨g, cg, eg, -, zg, hcc⟩ := row_cell HO.out rfl hkl
    simp only [Value.slice.injEq, true_and] at eg
    obtain ⟨rfl, rfl⟩ := eg
    have m0 : w5.cell? ⟨g, k * 5, none⟩ = some (.int .u64 (u F[k].p.a.hi)) := hcc 0 (by omega)
    have m1 : w5.cell? ⟨g, k * 5 + 1, none⟩ = some (.int .u64 (u F[k].p.a.lo)) := hcc 1 (by omega)
    have m2 : w5.cell? ⟨g, k * 5 + 2, none⟩ = some (.bool F[k].p.a.v6) := hcc 2 (by omega)
    have m3 : w5.cell? ⟨g, k * 5 + 3, none⟩ = some (.int .i64 F[k].p.n) := hcc 3 (by omega)
    have m4 : w5.cell? ⟨g, k * 5 + 4, none⟩ = some (.int .i64 F[k].v) := hcc 4 (by omega)
    generalize F[k] = y at m0 m1 m2 m3 m4 hgo
    have HGO := Lib.hid hgo
    have t1 : (((k + 1 : Nat) : Int) == 0) = false := by simp; omega
    have hk9 : (k : Int) + 1 ≤ 5000 := by omega
    rw [hk]
    have HK := Lib.hid hk
    clear hk hkl hl hfl hgo hcc HO
    go_wp2_with fail
    refine (route_any y _).mono ?_
    rintro e w6 ⟨rfl, hw6⟩
    have h6 := (hw6.block (w.heap.size + 1) (by omega)).trans h5
    have b6 := b5.trans (hw6.mono b5.size)
    have r0 : w6.cell? ⟨w.heap.size + 1, 0, none⟩ = some (.int .u64 0) := by rw [cell_row h6]; rfl
    have r1 : w6.cell? ⟨w.heap.size + 1, 1, none⟩ = some (.int .u64 0) := by rw [cell_row h6]; rfl
    have r2 : w6.cell? ⟨w.heap.size + 1, 2, none⟩ = some (.bool false) := by rw [cell_row h6]; rfl
    have r3 : w6.cell? ⟨w.heap.size + 1, 3, none⟩ = some (.int .i64 0) := by rw [cell_row h6]; rfl
    have r4 : w6.cell? ⟨w.heap.size + 1, 4, none⟩ = some (.int .i64 0) := by rw [cell_row h6]; rfl
    have q0 := frozen_of_row w6 (w.heap.size + 1) 0 _ _ h6
    have q1 := frozen_of_row w6 (w.heap.size + 1) 1 _ _ h6
    have q2 := frozen_of_row w6 (w.heap.size + 1) 2 _ _ h6
    have q3 := frozen_of_row w6 (w.heap.size + 1) 3 _ _ h6
    have q4 := frozen_of_row w6 (w.heap.size + 1) 4 _ _ h6
    clear h6 h5 hw6 m0 m1 m2 m3 m4
    go_wp2
    refine bodyPost_ret (v := .tuple #[.agg #[.int .u64 (u y.p.a.hi), .int .u64 (u y.p.a.lo), .bool y.p.a.v6, .int .i64 y.p.n, .int .i64 y.v], .bool true]) (by simp [*, results, Try.results54, go_sem] <;> rfl) rfl ⟨by rw [HGO.out]; rfl, ?_⟩
    exact b6.trans (((((((Below.refl _ _).setCell (by simp) _).setCell (by simp) _).setCell (by simp) _).setCell (by simp) _).setCell (by simp) _))
end

end Go.Proofs.Ytggceecolfebjaa

namespace Go.Proofs.Ytggceecolfebjaa
open Go.RowKit Go.Maps
set_option maxRecDepth 100000

theorem pof_128' (a : Ad) : pof a 128 = pof a (wid a.v6) := by
  have h : clamp a.v6 128 = clamp a.v6 (wid a.v6) := by
    unfold clamp wid
    cases a.v6 <;> decide
  unfold pof
  rw [h]
/-- What governs all digits of an address is its longest. -/
theorem gov_full {L : List Pr} (h : Srt L) (a : Ad) : govL L (pof a 128) = longL L a := by
  unfold govL longL
  rw [pof_128']
  have e : L.filter (fun x => pcov x.p (pof a (wid a.v6))) = L.filter (fun x => pcon x.p a) := List.filter_congr fun x hx => cov_full (h.1 x hx) a
  rw [e]
/-- Where none lies inside what covers a prefix is what contains its first address. -/
theorem gov_first {L : List Pr} {p : Pf} (hp : psane p = true) (hi : (L.any fun x => pins p x.p) = false) : govL L p = longL L p.a := by
  unfold govL longL
  have e : L.filter (fun x => pcov x.p p) = L.filter (fun x => pcon x.p p.a) := List.filter_congr fun x hx => by
    have hin : pins p x.p = false := by
      cases hc : pins p x.p
      · rfl
      · have : (L.any fun x => pins p x.p) = true := List.any_eq_true.2 ⟨x, hx, hc⟩
        rw [hi] at this
        cases this
    rw [Bool.eq_iff_iff]
    constructor
    · exact pcov_con
    · intro hc
      obtain ⟨c1, c2, c3⟩ := (pcon_iff _ _).1 hc
      rcases Int.lt_or_le p.n x.p.n with e | e
      · exfalso
        have hcv : pcov p x.p = true := (pcov_iff _ _).2 ⟨hp, c1, by omega, c2, fun j hj => (c3 j (by omega)).symm⟩
        rw [ins_eq hcv] at hin
        have : pfEq p x.p = true := by cases hq : pfEq p x.p <;> simp_all
        have := (pfEq_iff _ _).1 this
        rw [← this] at e
        omega
      · exact (pcov_iff _ _).2 ⟨c1, hp, e, c2.symm, fun j hj => c3 j hj⟩
  rw [e]
theorem con_lt' {x y : Pf} {a : Ad} (hx : pcon x a = true) (hy : pcon y a = true) (h : pcmp x y < 0) : x.n < y.n := by
  obtain ⟨x1, x2, x3⟩ := (pcon_iff x a).1 hx
  obtain ⟨y1, y2, y3⟩ := (pcon_iff y a).1 hy
  rcases Int.lt_or_le x.n y.n with e | e
  · exact e
  · have hc : pcov y x = true := (pcov_iff y x).2 ⟨y1, x1, e, by rw [← y2, x2], fun j hj => by rw [← x3 j (by omega), y3 j hj]⟩
    have h1 := cov_cmp hc
    have h2 := pcmp_anti x y
    omega
/-- None that contains an address is longer than the longest; which is one of them. -/
theorem long_most {L : List Pr} (h : Srt L) {a : Ad} {x : Pr} (hx : x ∈ L) (hc : pcon x.p a = true) : ∃ y, longL L a = some y ∧ x.p.n ≤ y.p.n := by
  unfold longL
  have hm : x ∈ L.filter fun x => pcon x.p a := List.mem_filter.2 ⟨hx, hc⟩
  have hs := filter_srt h (fun x => pcon x.p a)
  obtain ⟨i, hi, rfl⟩ := List.getElem_of_mem hm
  generalize hF : (L.filter fun x => pcon x.p a) = F at hi hs hm ⊢
  have hne : F ≠ [] := fun e => by rw [e] at hi; cases hi
  refine ⟨F.getLast hne, List.getLast?_eq_some_getLast hne, ?_⟩
  rw [List.getLast_eq_getElem]
  rcases Nat.lt_or_ge i (F.length - 1) with e | e
  · have h1 := List.pairwise_iff_getElem.1 hs.2 i (F.length - 1) hi (by omega) e
    have k2 : pcon F[F.length - 1].p a = true := by
      have : F[F.length - 1] ∈ (L.filter fun x => pcon x.p a) := by rw [hF]; exact List.getElem_mem _
      exact (List.mem_filter.1 this).2
    exact Int.le_of_lt (con_lt' hc k2 h1)
  · have : i = F.length - 1 := by omega
    subst this
    exact Int.le_refl _
theorem long_mem {L : List Pr} {a : Ad} {y : Pr} (h : longL L a = some y) : y ∈ L ∧ pcon y.p a = true := by
  unfold longL at h
  have := List.mem_of_getLast? h
  exact List.mem_filter.1 this
def prB (h l : Int) (v : Bool) (n o : Int) (h' l' : Int) (v' : Bool) (n' o' : Int) : Bool := pfB h l v n h' l' v' n' && o == o'
@[simp] theorem prB_self (h l : Int) (v : Bool) (n o : Int) : prB h l v n o h l v n o = true := by simp [prB]
@[simp] theorem eq_pr (h l h' l' : Int) (v v' : Bool) (n n' o o' : Int) (w : World) :
    (Op.equalIn 10000 65 (.agg #[.int .u64 h, .int .u64 l, .bool v, .int .i64 n, .int .i64 o]) (.agg #[.int .u64 h', .int .u64 l', .bool v', .int .i64 n', .int .i64 o'])).run Try.prog w = .ok (prB h l v n o h' l' v' n' o') w := by
  rw [show (10000 : Nat) = 9999 + 1 from rfl, run_equalIn_struct w 9999 _ _ _ (by kernel_rfl) Try.stoodInHeld65]
  simp [go_sem, prB, pfB, adB]
  by_cases h1 : h = h' <;> by_cases h2 : l = l' <;> by_cases h3 : v = v' <;> by_cases h4 : n = n' <;> by_cases h5 : o = o' <;> simp [h1, h2, h3, h4, h5]
theorem prB_iff (x y : Pr) : prB (u x.p.a.hi) (u x.p.a.lo) x.p.a.v6 x.p.n x.v (u y.p.a.hi) (u y.p.a.lo) y.p.a.v6 y.p.n y.v = decide (x = y) := by
  obtain ⟨p, n⟩ := x
  obtain ⟨q, m⟩ := y
  have h := pfEq_iff p q
  unfold pfEq at h
  rw [Bool.eq_iff_iff, decide_eq_true_iff]
  unfold prB
  rw [Bool.and_eq_true, beq_iff_eq, h]
  simp

end Go.Proofs.Ytggceecolfebjaa

namespace Go.Proofs.Ytggceecolfebjaa
open Go.RowKit Go.Maps
set_option maxRecDepth 100000

/-- Does one lie inside of a prefix? -/
def insL (L : List Pr) (p : Pf) : Bool := L.any fun x => pins p x.p
def wideN (L : List Pr) (a : Ad) : Nat → Int → Int
  | 0, m => m
  | k + 1, m => if insL L (pof a m) = true then wideN L a k (m + 1) else m
/-- How many digits the shortest one with so many at least has. -/
def wideM (L : List Pr) (a : Ad) (least : Int) : Int := wideN L a (wid a.v6 - clamp a.v6 least).toNat (clamp a.v6 least)
def wideP (L : List Pr) (a : Ad) (least : Int) : Pf := pof a (wideM L a least)
def leafO (L : List Pr) (a : Ad) : Option Pr := (govL L (wideP L a 0)).map fun x => ⟨wideP L a 0, x.v⟩
def exactO (L : List Pr) (a : Ad) : Option Pr := (longL L a).map fun x => ⟨pof a (wid a.v6), x.v⟩
def goodL (L : List Pr) (x : Pr) : Bool := (govL L x.p).isSome && (((govL L x.p).getD nilPr).v == x.v && !insL L x.p)

theorem ins_full (L : List Pr) (a : Ad) : insL L (pof a (wid a.v6)) = false := by
  unfold insL
  rw [List.any_eq_false]
  intro x hx hc
  unfold pins at hc
  rw [Bool.and_eq_true, decide_eq_true_iff] at hc
  obtain ⟨h1, h2, h3, h4, h5⟩ := (pcov_iff _ _).1 hc.1
  have hb := (psane_bd h2).2
  have hw := wid_bd a.v6
  have e : (pof a (wid a.v6)).n = wid a.v6 := pof_n a _ (by omega) (Int.le_refl _)
  have hv : a.v6 = x.p.a.v6 := h4
  have h6 := hc.2
  rw [e, hv] at h6
  omega
theorem wideN_spec (L : List Pr) (a : Ad) : ∀ (k : Nat) (m : Int), m + k = wid a.v6 → m ≤ wideN L a k m ∧ wideN L a k m ≤ wid a.v6 ∧ insL L (pof a (wideN L a k m)) = false ∧ ∀ j, m ≤ j → j < wideN L a k m → insL L (pof a j) = true := by
  intro k
  induction k with
  | zero =>
    intro m hm
    have e : m = wid a.v6 := by omega
    subst e
    exact ⟨Int.le_refl _, Int.le_refl _, ins_full L a, fun j h1 h2 => absurd h2 (by simp only [wideN]; omega)⟩
  | succ k ih =>
    intro m hm
    unfold wideN
    by_cases hi : insL L (pof a m) = true
    · rw [if_pos hi]
      obtain ⟨h1, h2, h3, h4⟩ := ih (m + 1) (by omega)
      refine ⟨by omega, h2, h3, fun j hj1 hj2 => ?_⟩
      by_cases e : j = m
      · rw [e]; exact hi
      · exact h4 j (by omega) hj2
    · rw [if_neg hi]
      exact ⟨Int.le_refl _, by omega, bool_not hi, fun j h1 h2 => by omega⟩
theorem wide_spec (L : List Pr) (a : Ad) (least : Int) : clamp a.v6 least ≤ wideM L a least ∧ wideM L a least ≤ wid a.v6 ∧ insL L (wideP L a least) = false ∧ ∀ j, clamp a.v6 least ≤ j → j < wideM L a least → insL L (pof a j) = true := by
  have hb := clamp_wid a.v6 least
  exact wideN_spec L a _ _ (by omega)
theorem wide_bd (L : List Pr) (a : Ad) (least : Int) : 0 ≤ wideM L a least ∧ wideM L a least ≤ wid a.v6 := by
  have hb := clamp_wid a.v6 least
  have hs := wide_spec L a least
  exact ⟨by omega, hs.2.1⟩
theorem wide_eq {L : List Pr} {a : Ad} {least m : Int} (h1 : clamp a.v6 least ≤ m) (_ : m ≤ wid a.v6) (h3 : insL L (pof a m) = false) (h4 : ∀ j, clamp a.v6 least ≤ j → j < m → insL L (pof a j) = true) : wideM L a least = m := by
  obtain ⟨s1, s2, s3, s4⟩ := wide_spec L a least
  rcases Int.lt_trichotomy (wideM L a least) m with e | e | e
  · have := h4 _ s1 e
    unfold wideP at s3
    rw [s3] at this
    cases this
  · exact e
  · have := s4 m h1 e
    rw [h3] at this
    cases this
theorem wide_n (L : List Pr) (a : Ad) (least : Int) : (wideP L a least).n = wideM L a least := by
  have hb := wide_bd L a least
  exact pof_n a _ hb.1 hb.2
theorem wide_sane (L : List Pr) (a : Ad) (least : Int) : psane (wideP L a least) = true := psane_pof _ _
theorem wide_con (L : List Pr) (a : Ad) (least : Int) : pcon (wideP L a least) a = true := con_pof _ _
theorem cov_con {p q : Pf} {b : Ad} (h : pcov p q = true) (hc : pcon q b = true) : pcon p b = true := by
  obtain ⟨h1, h2, h3, h4, h5⟩ := (pcov_iff _ _).1 h
  obtain ⟨c1, c2, c3⟩ := (pcon_iff _ _).1 hc
  exact (pcon_iff _ _).2 ⟨h1, by rw [c2, h4], fun j hj => by rw [c3 j (by omega), h5 j hj]⟩
theorem cov_pofI {a : Ad} {m n : Int} (h0 : 0 ≤ m) (h : m ≤ n) (hn : n ≤ wid a.v6) : pcov (pof a m) (pof a n) = true := by
  obtain ⟨m', rfl⟩ := Int.eq_ofNat_of_zero_le h0
  obtain ⟨n', rfl⟩ := Int.eq_ofNat_of_zero_le (show 0 ≤ n by omega)
  rw [wid_wd] at hn
  exact cov_pof (by omega) (by omega)
theorem ins_mono {L : List Pr} {p q : Pf} (h : pcov p q = true) (hi : insL L q = true) : insL L p = true := by
  obtain ⟨x, hx, hc⟩ := List.any_eq_true.1 hi
  refine List.any_eq_true.2 ⟨x, hx, ?_⟩
  unfold pins at hc ⊢
  rw [Bool.and_eq_true, decide_eq_true_iff] at hc ⊢
  have h3 := ((pcov_iff _ _).1 h).2.2.1
  exact ⟨cov_trans h hc.1, by omega⟩
theorem ins_anti {L : List Pr} {p q : Pf} (h : pcov p q = true) (hi : insL L p = false) : insL L q = false :=
  bool_not fun e => by
    have := ins_mono h e
    rw [hi] at this
    cases this
/-- What governs a block inside of which none lies is the longest of each of its addresses. -/
theorem gov_con {L : List Pr} {p : Pf} {b : Ad} (hi : insL L p = false) (hb : pcon p b = true) : govL L p = longL L b := by
  unfold govL longL
  obtain ⟨b1, b2, b3⟩ := (pcon_iff _ _).1 hb
  have e : L.filter (fun x => pcov x.p p) = L.filter (fun x => pcon x.p b) := List.filter_congr fun x hx => by
    rw [Bool.eq_iff_iff]
    constructor
    · exact fun hc => cov_con hc hb
    · intro hc
      obtain ⟨c1, c2, c3⟩ := (pcon_iff _ _).1 hc
      rcases Int.lt_or_le p.n x.p.n with e | e
      · exfalso
        have hcv : pcov p x.p = true := (pcov_iff _ _).2 ⟨b1, c1, by omega, by rw [← b2, c2], fun j hj => by rw [← c3 j (by omega), b3 j hj]⟩
        have : insL L p = true := List.any_eq_true.2 ⟨x, hx, by unfold pins; rw [hcv, decide_eq_true e]; rfl⟩
        rw [hi] at this
        cases this
      · exact (pcov_iff _ _).2 ⟨c1, b1, e, by rw [← c2, b2], fun j hj => by rw [← b3 j (by omega), c3 j hj]⟩
  rw [e]
theorem gov_wide (L : List Pr) (a : Ad) (least : Int) : govL L (wideP L a least) = longL L a := gov_con (wide_spec L a least).2.2.1 (wide_con L a least)
theorem gov_all (L : List Pr) (a : Ad) : govL L (pof a (wid a.v6)) = longL L a := gov_con (ins_full L a) (con_pof _ _)
theorem leaf_eq (L : List Pr) (a : Ad) : leafO L a = (longL L a).map fun x => ⟨wideP L a 0, x.v⟩ := by unfold leafO; rw [gov_wide]
/-- Two addresses of a block have the same first digits. -/
theorem pof_con {a b : Ad} {m j : Int} (h0 : 0 ≤ j) (hj : j ≤ m) (hm : m ≤ wid a.v6) (hc : pcon (pof a m) b = true) : pof b j = pof a j := by
  have h := (con_iff_pof _ _).1 (cov_con (cov_pofI h0 hj hm) hc)
  rwa [pof_n a j h0 (by omega)] at h
theorem wide_same {L : List Pr} {a b : Ad} {least : Int} (hc : pcon (wideP L a least) b = true) : wideP L b least = wideP L a least := by
  have hv : b.v6 = a.v6 := ((pcon_iff _ _).1 hc).2.1
  obtain ⟨s1, s2, s3, s4⟩ := wide_spec L a least
  have hb := wide_bd L a least
  have hcl := clamp_wid a.v6 least
  have hp : ∀ j, 0 ≤ j → j ≤ wideM L a least → pof b j = pof a j := fun j h1 h2 => pof_con h1 h2 s2 hc
  have e : wideM L b least = wideM L a least := by
    refine wide_eq (by rw [hv]; exact s1) (by rw [hv]; exact s2) ?_ fun j h1 h2 => ?_
    · rw [hp _ hb.1 (Int.le_refl _)]; exact s3
    · rw [hv] at h1
      rw [hp j (by omega) (by omega)]
      exact s4 j h1 h2
  unfold wideP
  rw [e]
  exact hp _ hb.1 (Int.le_refl _)
/-- Blocks of two addresses are one, or apart. -/
theorem wide_two (L : List Pr) (a b : Ad) (least : Int) : pcon (wideP L a least) b = decide (wideP L a least = wideP L b least) ∧ (wideP L a least ≠ wideP L b least → papa (wideP L a least) (wideP L b least) = true) := by
  have h1 : ∀ a b, pcon (wideP L a least) b = true ↔ wideP L a least = wideP L b least := fun a b => by
    constructor
    · exact fun h => (wide_same h).symm
    · intro h
      rw [h]
      exact wide_con L b least
  constructor
  · rw [Bool.eq_iff_iff, decide_eq_true_iff]
    exact h1 a b
  · intro hne
    rw [apa_eq (wide_sane _ _ _) (wide_sane _ _ _)]
    have n1 : pcov (wideP L a least) (wideP L b least) = false := bool_not fun e => hne ((h1 a b).1 (cov_con e (wide_con L b least)))
    have n2 : pcov (wideP L b least) (wideP L a least) = false := bool_not fun e => hne ((h1 b a).1 (cov_con e (wide_con L a least))).symm
    rw [n1, n2]
    rfl
/-- With one digit less one lies inside. -/
theorem wide_parent (L : List Pr) (a : Ad) (h : (pparent (wideP L a 0)).2 = true) : insL L (pparent (wideP L a 0)).1 = true := by
  obtain ⟨s1, s2, s3, s4⟩ := wide_spec L a 0
  have hb := wide_bd L a 0
  have hw := wid_bd a.v6
  have hcl : clamp a.v6 0 = 0 := clamp_id _ _ (Int.le_refl _) (by omega)
  by_cases h0 : wideM L a 0 = 0
  · unfold wideP at h
    rw [h0, chain_stop] at h
    cases h
  · unfold wideP
    rw [chain_parent a _ (by omega) s2]
    exact s4 _ (by omega) (by omega)
theorem leaf_good {L : List Pr} {a : Ad} {x : Pr} (h : leafO L a = some x) : goodL L x = true := by
  unfold leafO at h
  obtain ⟨y, hy, rfl⟩ := Option.map_eq_some_iff.1 h
  unfold goodL
  show ((govL L (wideP L a 0)).isSome && (((govL L (wideP L a 0)).getD nilPr).v == y.v && !insL L (wideP L a 0))) = true
  rw [hy, (wide_spec L a 0).2.2.1]
  simp
theorem exact_good {L : List Pr} {a : Ad} {x : Pr} (h : exactO L a = some x) : goodL L x = true := by
  unfold exactO at h
  obtain ⟨y, hy, rfl⟩ := Option.map_eq_some_iff.1 h
  unfold goodL
  show ((govL L (pof a (wid a.v6))).isSome && (((govL L (pof a (wid a.v6))).getD nilPr).v == y.v && !insL L (pof a (wid a.v6)))) = true
  rw [gov_all, hy, ins_full]
  simp
/-- A good block lies in the leaf of its first address. -/
theorem good_within {L : List Pr} {x : Pr} (h : goodL L x = true) : psane x.p = true ∧ ∃ y, leafO L x.p.a = some y ∧ pcov y.p x.p = true ∧ y.v = x.v := by
  unfold goodL at h
  simp only [Bool.and_eq_true, beq_iff_eq, Bool.not_eq_true'] at h
  obtain ⟨h1, h2, h3⟩ := h
  obtain ⟨z, hz⟩ := Option.isSome_iff_exists.1 h1
  have hm : z ∈ L.filter fun y => pcov y.p x.p := List.mem_of_getLast? hz
  have hs := ((pcov_iff _ _).1 (List.mem_filter.1 hm).2).2.1
  have hb := psane_bd hs
  rw [hz] at h2
  refine ⟨hs, ⟨wideP L x.p.a 0, z.v⟩, ?_, ?_, h2⟩
  · rw [leaf_eq, ← gov_con h3 (con_first _ hs), hz]
    rfl
  · show pcov (wideP L x.p.a 0) x.p = true
    obtain ⟨s1, s2, s3, s4⟩ := wide_spec L x.p.a 0
    have hwb := wide_bd L x.p.a 0
    have hle : wideM L x.p.a 0 ≤ x.p.n := by
      rcases Int.lt_or_le x.p.n (wideM L x.p.a 0) with e | e
      · exfalso
        have hcl := clamp_id x.p.a.v6 0 (Int.le_refl _) (by omega)
        have := s4 x.p.n (by omega) e
        rw [pof_self hs, h3] at this
        cases this
      · exact e
    have := cov_pofI (a := x.p.a) hwb.1 hle hb.2
    rwa [pof_self hs] at this
/-- So does each part of it. -/
theorem good_part {L : List Pr} {p q : Pf} {v : Int} (h : goodL L ⟨p, v⟩ = true) (hc : pcov p q = true) : goodL L ⟨q, v⟩ = true := by
  unfold goodL at h ⊢
  simp only [Bool.and_eq_true, beq_iff_eq, Bool.not_eq_true'] at h ⊢
  obtain ⟨h1, h2, h3⟩ := h
  have hq := ((pcov_iff _ _).1 hc).2.1
  have e1 := ins_anti hc h3
  have e2 : govL L q = govL L p := by rw [gov_con e1 (con_first _ hq), gov_con h3 (pcov_con hc)]
  rw [e2]
  exact ⟨h1, h2, e1⟩
/-- With more routes blocks are never wider. -/
theorem ins_put {L : List Pr} {q : Pf} {v : Int} (hL : Srt L) (hq : psane q = true) {p : Pf} : insL (putL q v L) p = (insL L p || pins p q) := by
  rw [Bool.eq_iff_iff, Bool.or_eq_true]
  constructor
  · intro h
    obtain ⟨x, hx, hc⟩ := List.any_eq_true.1 h
    rcases (mem_put hL hq x).1 hx with rfl | ⟨h1, h2⟩
    · exact .inr hc
    · exact .inl (List.any_eq_true.2 ⟨x, h1, hc⟩)
  · rintro (h | h)
    · obtain ⟨x, hx, hc⟩ := List.any_eq_true.1 h
      by_cases e : x.p = q
      · exact List.any_eq_true.2 ⟨⟨q, v⟩, (mem_put hL hq _).2 (.inl rfl), by show pins p q = true; rw [← e]; exact hc⟩
      · exact List.any_eq_true.2 ⟨x, (mem_put hL hq _).2 (.inr ⟨hx, e⟩), hc⟩
    · exact List.any_eq_true.2 ⟨⟨q, v⟩, (mem_put hL hq _).2 (.inl rfl), h⟩
theorem wide_more {L : List Pr} {q : Pf} {v : Int} (hL : Srt L) (hq : psane q = true) (a : Ad) : pcov (wideP L a 0) (wideP (putL q v L) a 0) = true := by
  obtain ⟨s1, s2, s3, s4⟩ := wide_spec L a 0
  obtain ⟨t1, t2, t3, t4⟩ := wide_spec (putL q v L) a 0
  have hb := wide_bd L a 0
  have hb2 := wide_bd (putL q v L) a 0
  refine cov_pofI hb.1 ?_ hb2.2
  rcases Int.lt_or_le (wideM (putL q v L) a 0) (wideM L a 0) with e | e
  · exfalso
    have := s4 _ t1 e
    unfold wideP at t3
    rw [ins_put hL hq, this] at t3
    cases t3
  · exact e
theorem gov_put_apart {L : List Pr} {q : Pf} {v : Int} (hL : Srt L) (hq : psane q = true) {p : Pf} (h : pcov q p = false) : govL (putL q v L) p = govL L p := by
  unfold govL
  have e : (putL q v L).filter (fun x => pcov x.p p) = L.filter (fun x => pcov x.p p) := by
    refine srt_ext (filter_srt (put_srt hL hq) _) (filter_srt hL _) fun x => ?_
    rw [List.mem_filter, List.mem_filter, mem_put hL hq]
    constructor
    · rintro ⟨rfl | ⟨h1, h2⟩, h3⟩
      · exfalso
        have h4 : pcov q p = true := h3
        rw [h] at h4
        cases h4
      · exact ⟨h1, h3⟩
    · rintro ⟨h1, h3⟩
      refine ⟨.inr ⟨h1, fun e => ?_⟩, h3⟩
      rw [e, h] at h3
      cases h3
  rw [e]
theorem leaf_apart {L : List Pr} {q : Pf} {v : Int} (hL : Srt L) (hq : psane q = true) {a : Ad} (h : papa (wideP L a 0) q = true) : wideP (putL q v L) a 0 = wideP L a 0 ∧ leafO (putL q v L) a = leafO L a := by
  rw [apa_eq (wide_sane _ _ _) hq] at h
  simp only [Bool.and_eq_true, Bool.not_eq_true'] at h
  obtain ⟨s1, s2, s3, s4⟩ := wide_spec L a 0
  have e : wideM (putL q v L) a 0 = wideM L a 0 := by
    refine wide_eq s1 s2 ?_ fun j h1 h2 => ?_
    · have : insL (putL q v L) (wideP L a 0) = false := by
        rw [ins_put hL hq, s3]
        unfold pins
        rw [h.1]
        rfl
      exact this
    · rw [ins_put hL hq, s4 j h1 h2]
      rfl
  have e1 : wideP (putL q v L) a 0 = wideP L a 0 := by unfold wideP; rw [e]
  refine ⟨e1, ?_⟩
  unfold leafO
  rw [e1, gov_put_apart hL hq h.2]
/-- More digits at least. -/
theorem wide_le {L : List Pr} {a : Ad} {n m : Int} (h : n ≤ m) : pcov (wideP L a n) (wideP L a m) = true := by
  obtain ⟨s1, s2, s3, s4⟩ := wide_spec L a n
  obtain ⟨t1, t2, t3, t4⟩ := wide_spec L a m
  have hb := wide_bd L a n
  have hb2 := wide_bd L a m
  refine cov_pofI hb.1 ?_ hb2.2
  rcases Int.lt_or_le (wideM L a m) (wideM L a n) with e | e
  · exfalso
    have hcc : clamp a.v6 n ≤ clamp a.v6 m := by unfold clamp; omega
    have := s4 _ (by omega) e
    unfold wideP at t3
    rw [t3] at this
    cases this
  · exact e
theorem wide_128 (L : List Pr) (a : Ad) : wideP L a 128 = pof a 128 := by
  have hw := wid_bd a.v6
  have hc : clamp a.v6 128 = wid a.v6 := by unfold clamp; omega
  have hs := wide_spec L a 128
  have e : wideM L a 128 = wid a.v6 := by have := hs.1; have := hs.2.1; omega
  unfold wideP
  rw [e, pof_128']
theorem wide_again (L : List Pr) (a : Ad) (n : Int) : wideP L a (wideP L a n).n = wideP L a n := by
  obtain ⟨s1, s2, s3, s4⟩ := wide_spec L a n
  have hb := wide_bd L a n
  rw [wide_n]
  have e : wideM L a (wideM L a n) = wideM L a n := by
    have hc : clamp a.v6 (wideM L a n) = wideM L a n := clamp_id _ _ hb.1 hb.2
    exact wide_eq (by omega) s2 s3 fun j h1 h2 => by omega
  unfold wideP
  rw [e]
theorem wide_least (L : List Pr) (a : Ad) (n : Int) : min n (pof a 128).n ≤ (wideP L a n).n := by
  have hw := wid_bd a.v6
  have hs := wide_spec L a n
  rw [wide_n, pof_128', pof_n a _ (by omega) (Int.le_refl _)]
  have : min n (wid a.v6) ≤ clamp a.v6 n := by unfold clamp; omega
  omega

end Go.Proofs.Ytggceecolfebjaa

namespace Go.Proofs.Ytggceecolfebjaa
open Go.RowKit Go.Maps
set_option maxRecDepth 100000

theorem wideN_step {L : List Pr} {a : Ad} {K j : Nat} {c : Int} (hj : j < K) (e : wideN L a K c = wideN L a (K - j) (c + j)) (hi : insL L (pof a (c + j)) = true) : wideN L a K c = wideN L a (K - (j + 1)) (c + ((j + 1 : Nat) : Int)) := by
  obtain ⟨k, hk⟩ : ∃ k, K - j = k + 1 := ⟨K - j - 1, by omega⟩
  rw [e, hk, wideN, if_pos hi, show K - (j + 1) = k from by omega, show c + ((j + 1 : Nat) : Int) = c + j + 1 from by omega]
theorem wideN_stop {L : List Pr} {a : Ad} {K j : Nat} {c : Int} (hj : j < K) (e : wideN L a K c = wideN L a (K - j) (c + j)) (hi : insL L (pof a (c + j)) = false) : wideN L a K c = c + j := by
  obtain ⟨k, hk⟩ : ∃ k, K - j = k + 1 := ⟨K - j - 1, by omega⟩
  rw [e, hk, wideN, if_neg (by rw [hi]; decide)]
theorem wideN_end {L : List Pr} {a : Ad} {K j : Nat} {c : Int} (hj : j = K) (e : wideN L a K c = wideN L a (K - j) (c + j)) : wideN L a K c = c + K := by
  subst hj
  rw [e, Nat.sub_self]
  rfl

section
variable {w : World} {r : Nat} {S : Nat → Prop} {n h : Int} {L : List Pr} {most : Nat}
theorem rib_ins (H : RibS w r S n h L most) (p : Pf) : Calls Try.prog 52 #[.pointer (some ⟨r, 0, none⟩), .agg #[.int .u64 (u p.a.hi), .int .u64 (u p.a.lo), .bool p.a.v6, .int .i64 p.n]] w fun e w' => e = .returned (.bool (insL L p)) ∧ Below w.heap.size w w' := rib_inside H p
end

end Go.Proofs.Ytggceecolfebjaa

namespace Go.Proofs.Ytggceecolfebjaa
open Go.RowKit Go.Maps
set_option maxRecDepth 100000

section
variable {w : World} {r : Nat} {S : Nat → Prop} {n h : Int} {L : List Pr} {most : Nat}
end

end Go.Proofs.Ytggceecolfebjaa

namespace Go.Proofs.Ytggceecolfebjaa
open Go.RowKit Go.Maps
set_option maxRecDepth 100000

/-- Routes that lie in memory, as a slice says. -/
def RdQ (w : World) (A : Option Addr) (ls : List Pr) : Prop :=
  ls ≠ [] → ∃ g off, A = some ⟨g, off, none⟩ ∧ g < w.heap.size ∧ ∀ i, (h : i < ls.length) → w.cell? ⟨g, off + i * 5, none⟩ = some (.int .u64 (u ls[i].p.a.hi)) ∧ w.cell? ⟨g, off + i * 5 + 1, none⟩ = some (.int .u64 (u ls[i].p.a.lo)) ∧ w.cell? ⟨g, off + i * 5 + 2, none⟩ = some (.bool ls[i].p.a.v6) ∧ w.cell? ⟨g, off + i * 5 + 3, none⟩ = some (.int .i64 ls[i].p.n) ∧ w.cell? ⟨g, off + i * 5 + 4, none⟩ = some (.int .i64 ls[i].v)
theorem RdQ.keep {B : Nat} {w w' : World} {A : Option Addr} {ls : List Pr} (h : RdQ w A ls) (hb : Below B w w') (hB : w.heap.size ≤ B) : RdQ w' A ls := fun hn => by
  obtain ⟨g, off, e, hg, hc⟩ := h hn
  have hg' : g < B := Nat.lt_of_lt_of_le hg hB
  refine ⟨g, off, e, Nat.lt_of_lt_of_le hg hb.size, fun i hi => ?_⟩
  obtain ⟨c0, c1, c2, c3, c4⟩ := hc i hi
  exact ⟨(hb.cell (p := ⟨g, off + i * 5, none⟩) hg').trans c0, (hb.cell (p := ⟨g, off + i * 5 + 1, none⟩) hg').trans c1, (hb.cell (p := ⟨g, off + i * 5 + 2, none⟩) hg').trans c2, (hb.cell (p := ⟨g, off + i * 5 + 3, none⟩) hg').trans c3, (hb.cell (p := ⟨g, off + i * 5 + 4, none⟩) hg').trans c4⟩
/-- What is there behind the first k routes; room for 200. -/
def fills : List Pr → List Pr × Nat
  | [] => ([], 2)
  | x :: r => (addQ 200 200 (fills r).1 x.p x.v, addM 200 200 (fills r).1 x.p x.v (fills r).2)
def fillK (ls : List Pr) (k : Nat) : List Pr × Nat := fills (ls.take k).reverse
theorem fillK_succ (ls : List Pr) (k : Nat) (hk : k < ls.length) : fillK ls (k + 1) = (addQ 200 200 (fillK ls k).1 ls[k].p ls[k].v, addM 200 200 (fillK ls k).1 ls[k].p ls[k].v (fillK ls k).2) := by
  unfold fillK
  rw [List.take_succ_eq_append_getElem hk, List.reverse_append]
  rfl
def FillPost (w : World) (ls : List Pr) (e : Ending) (w' : World) : Prop := ∃ r S, e = .returned (.pointer (some ⟨r, 0, none⟩)) ∧ RibS w' r S 200 200 (fillK ls ls.length).1 (fillK ls ls.length).2 ∧ (fillK ls ls.length).2 ≤ 2 + 128 * ls.length ∧ (∀ b, S b → w.heap.size ≤ b) ∧ Below w.heap.size w w'

end Go.Proofs.Ytggceecolfebjaa

namespace Go.Proofs.Ytggceecolfebjaa
open Go.RowKit

set_option maxHeartbeats 400000 in
theorem rpcov_any (p q : Pf) (w : World) :
    Calls Try.prog 113 #[.agg #[.int .u64 (u p.a.hi), .int .u64 (u p.a.lo), .bool p.a.v6, .int .i64 p.n], .agg #[.int .u64 (u q.a.hi), .int .u64 (u q.a.lo), .bool q.a.v6, .int .i64 q.n]] w fun e w' => e = .returned (.bool (pcov p q)) ∧ Below w.heap.size w w' := by
  cases hs : psane q
  · have hr := Lib.hid (show pcov p q = false by unfold pcov; rw [hs]; rfl)
    have Hs := Lib.hid hs
    clear hs
    go_enter Try.func113, Try.ntmps113
    go_wp2_with fail
    refine (rpsane_any q _).mono ?_
    rintro e w1 ⟨rfl, hw1⟩
    have zw1 := hw1.size
    have bw1 := below_of (w := w) (by go_grown) hw1
    try simp at zw1
    rw [Hs.out]
    go_wp2
    go_ret
    exact ⟨ret_bool hr.out.symm, bw1⟩
  · by_cases hn : p.n ≤ q.n
    · have hn' : decide (p.n ≤ q.n) = true := by simp [hn]
      have hr := Lib.hid (show pcov p q = pcon p q.a by unfold pcov; rw [hs, hn']; rfl)
      have Hs := Lib.hid hs
      clear hs hn
      go_enter Try.func113, Try.ntmps113
      go_wp2_with fail
      refine (rpsane_any q _).mono ?_
      rintro e w1 ⟨rfl, hw1⟩
      have zw1 := hw1.size
      have bw1 := below_of (w := w) (by go_grown) hw1
      try simp at zw1
      rw [Hs.out]
      obtain ⟨pa, pb, pc, pg, pd, pe, pf, ph, pz⟩ := cells4 (b := w.heap.size) hw1 (by go_size) (by go_simp <;> rfl) (by go_simp <;> rfl) (by go_simp <;> rfl) (by go_simp <;> rfl) (by go_simp <;> rfl) (by go_simp <;> rfl) (by go_simp <;> rfl) (by go_simp <;> rfl)
      obtain ⟨qa, qb, qc, qg, qd, qe, qf, qh, qz⟩ := cells4 (b := w.heap.size + 1) hw1 (by go_size) (by go_simp <;> rfl) (by go_simp <;> rfl) (by go_simp <;> rfl) (by go_simp <;> rfl) (by go_simp <;> rfl) (by go_simp <;> rfl) (by go_simp <;> rfl) (by go_simp <;> rfl)
      clear hw1
      go_wp2_with fail
      refine (rpcon_any p q.a _).mono ?_
      rintro e w2 ⟨rfl, hw2⟩
      have zw2 := hw2.size
      have bw2 := below_of (w := w) (by go_grown) hw2
      try simp at zw2
      go_wp2
      go_ret
      exact ⟨ret_bool hr.out.symm, bw2⟩
    · have hn' : decide (p.n ≤ q.n) = false := by simp [hn]
      have hr := Lib.hid (show pcov p q = false by unfold pcov; rw [hs, hn']; rfl)
      have Hs := Lib.hid hs
      clear hs hn
      go_enter Try.func113, Try.ntmps113
      go_wp2_with fail
      refine (rpsane_any q _).mono ?_
      rintro e w1 ⟨rfl, hw1⟩
      have zw1 := hw1.size
      have bw1 := below_of (w := w) (by go_grown) hw1
      try simp at zw1
      rw [Hs.out]
      obtain ⟨pa, pb, pc, pg, pd, pe, pf, ph, pz⟩ := cells4 (b := w.heap.size) hw1 (by go_size) (by go_simp <;> rfl) (by go_simp <;> rfl) (by go_simp <;> rfl) (by go_simp <;> rfl) (by go_simp <;> rfl) (by go_simp <;> rfl) (by go_simp <;> rfl) (by go_simp <;> rfl)
      obtain ⟨qa, qb, qc, qg, qd, qe, qf, qh, qz⟩ := cells4 (b := w.heap.size + 1) hw1 (by go_size) (by go_simp <;> rfl) (by go_simp <;> rfl) (by go_simp <;> rfl) (by go_simp <;> rfl) (by go_simp <;> rfl) (by go_simp <;> rfl) (by go_simp <;> rfl) (by go_simp <;> rfl)
      clear hw1
      go_wp2
      go_ret
      exact ⟨ret_bool hr.out.symm, bw1⟩

set_option maxHeartbeats 400000 in
theorem rpins_any (p q : Pf) (w : World) :
    Calls Try.prog 104 #[.agg #[.int .u64 (u p.a.hi), .int .u64 (u p.a.lo), .bool p.a.v6, .int .i64 p.n], .agg #[.int .u64 (u q.a.hi), .int .u64 (u q.a.lo), .bool q.a.v6, .int .i64 q.n]] w fun e w' => e = .returned (.bool (pins p q)) ∧ Below w.heap.size w w' := by
  cases hs : pcov p q
  · have hr := Lib.hid (show pins p q = false by unfold pins; rw [hs]; rfl)
    have Hs := Lib.hid hs
    clear hs
    go_enter Try.func104, Try.ntmps104
    go_wp2_with fail
    refine (rpcov_any p q _).mono ?_
    rintro e w1 ⟨rfl, hw1⟩
    have zw1 := hw1.size
    have bw1 := below_of (w := w) (by go_grown) hw1
    try simp at zw1
    rw [Hs.out]
    go_wp2
    go_ret
    exact ⟨ret_bool hr.out.symm, bw1⟩
  · have hr := Lib.hid (show pins p q = decide (p.n < q.n) by unfold pins; rw [hs]; rfl)
    have Hs := Lib.hid hs
    clear hs
    go_enter Try.func104, Try.ntmps104
    go_wp2_with fail
    refine (rpcov_any p q _).mono ?_
    rintro e w1 ⟨rfl, hw1⟩
    have zw1 := hw1.size
    have bw1 := below_of (w := w) (by go_grown) hw1
    try simp at zw1
    rw [Hs.out]
    obtain ⟨pa, pb, pc, pg, pd, pe, pf, ph, pz⟩ := cells4 (b := w.heap.size) hw1 (by go_size) (by go_simp <;> rfl) (by go_simp <;> rfl) (by go_simp <;> rfl) (by go_simp <;> rfl) (by go_simp <;> rfl) (by go_simp <;> rfl) (by go_simp <;> rfl) (by go_simp <;> rfl)
    obtain ⟨qa, qb, qc, qg, qd, qe, qf, qh, qz⟩ := cells4 (b := w.heap.size + 1) hw1 (by go_size) (by go_simp <;> rfl) (by go_simp <;> rfl) (by go_simp <;> rfl) (by go_simp <;> rfl) (by go_simp <;> rfl) (by go_simp <;> rfl) (by go_simp <;> rfl) (by go_simp <;> rfl)
    clear hw1
    go_wp2
    go_ret
    exact ⟨ret_bool hr.out.symm, bw1⟩

set_option maxHeartbeats 1000000 in
theorem rpchild_any (p : Pf) (v : Int) (w : World) :
    Calls Try.prog 56 #[.agg #[.int .u64 (u p.a.hi), .int .u64 (u p.a.lo), .bool p.a.v6, .int .i64 p.n], .int .i64 v] w fun e w' => e = .returned (.tuple #[.agg #[.int .u64 (u (pchild p v).1.a.hi), .int .u64 (u (pchild p v).1.a.lo), .bool (pchild p v).1.a.v6, .int .i64 (pchild p v).1.n], .bool (pchild p v).2]) ∧ Below w.heap.size w w' := by
  cases hs : psane p
  · have hv : pchild p v = (nilP, false) := by unfold pchild; rw [hs]; rfl
    rw [hv]
    have Hs := Lib.hid hs
    have hs' : (!psane p) = true := by simp [hs]
    clear hv hs
    go_enter Try.func56, Try.ntmps56
    go_wp2_with fail
    generalize hW : World.alloc _ _ = W
    have hz : w.heap.size ≤ W.heap.size := by subst hW; go_size
    have hB : Below w.heap.size w W := by subst hW; go_grown
    obtain ⟨pa, pb, pc, pg, pd, pe, pf, ph, pz⟩ := cells4 (W := W) (b := w.heap.size) (Below.refl _ W) (by subst hW; go_size) (by subst hW; go_simp <;> rfl) (by subst hW; go_simp <;> rfl) (by subst hW; go_simp <;> rfl) (by subst hW; go_simp <;> rfl) (by subst hW; go_simp <;> rfl) (by subst hW; go_simp <;> rfl) (by subst hW; go_simp <;> rfl) (by subst hW; go_simp <;> rfl)
    obtain ⟨qa, qb, qc, qg, qd, qe, qf, qh, qz⟩ := cells4 (W := W) (b := w.heap.size + 1) (Below.refl _ W) (by subst hW; go_size) (by subst hW; go_simp <;> rfl) (by subst hW; go_simp <;> rfl) (by subst hW; go_simp <;> rfl) (by subst hW; go_simp <;> rfl) (by subst hW; go_simp <;> rfl) (by subst hW; go_simp <;> rfl) (by subst hW; go_simp <;> rfl) (by subst hW; go_simp <;> rfl)
    clear hW
    have Lpa := fun x : Later W.heap.size W => (x.cell pz).trans pa
    have Lpb := fun x : Later W.heap.size W => (x.cell pz).trans pb
    have Lpc := fun x : Later W.heap.size W => (x.cell pz).trans pc
    have Lpg := fun x : Later W.heap.size W => (x.cell pz).trans pg
    refine region_later W.heap.size (by kernel_rfl) (by kernel_rfl) ?_
    repeat (go_big_quiet_step (first | (go_at_call 49; exact later_of (Nat.le_refl _) (rpsane_any p _)) | (go_at_call 76; exact later_same (refWidth_any _ _))))
    refine wpQuiet_nil ?_
    intro x
    have hx : Below w.heap.size w x.at := hB.trans (x.below.mono hz)
    clear Lpa Lpb Lpc Lpg
    obtain ⟨p'a, p'b, p'c, p'g, p'd, p'e, p'f, p'h, p'z⟩ := cells4 x.below pz pa pb pc pg pd pe pf ph
    clear pa pb pc pd pe pf pg ph pz
    obtain ⟨q'a, q'b, q'c, q'g, q'd, q'e, q'f, q'h, q'z⟩ := cells4 x.below qz qa qb qc qg qd qe qf qh
    clear qa qb qc qd qe qf qg qh qz
    generalize x.at = w1 at *
    clear x hB hz W
    go_wp2
    refine bodyPost_ret (v := .tuple #[.agg #[.int .u64 0, .int .u64 0, .bool false, .int .i64 0], .bool false]) (by simp [*, results, Try.results56, go_sem] <;> rfl) rfl ⟨rfl, ?_⟩
    go_grown
  · obtain ⟨b0, b1⟩ := psane_bd hs
    have hw := wid_bd p.a.v6
    have hs' : (!psane p) = false := by simp [hs]
    by_cases hn : p.n = wid p.a.v6
    · have hv : pchild p v = (nilP, false) := by unfold pchild; rw [hs, if_pos rfl, if_pos hn]
      rw [hv]
      have hn' : (p.n == wid p.a.v6) = true := by simp [hn]
      clear hv hs hn
      go_enter Try.func56, Try.ntmps56
      go_wp2_with fail
      generalize hW : World.alloc _ _ = W
      have hz : w.heap.size ≤ W.heap.size := by subst hW; go_size
      have hB : Below w.heap.size w W := by subst hW; go_grown
      obtain ⟨pa, pb, pc, pg, pd, pe, pf, ph, pz⟩ := cells4 (W := W) (b := w.heap.size) (Below.refl _ W) (by subst hW; go_size) (by subst hW; go_simp <;> rfl) (by subst hW; go_simp <;> rfl) (by subst hW; go_simp <;> rfl) (by subst hW; go_simp <;> rfl) (by subst hW; go_simp <;> rfl) (by subst hW; go_simp <;> rfl) (by subst hW; go_simp <;> rfl) (by subst hW; go_simp <;> rfl)
      obtain ⟨qa, qb, qc, qg, qd, qe, qf, qh, qz⟩ := cells4 (W := W) (b := w.heap.size + 1) (Below.refl _ W) (by subst hW; go_size) (by subst hW; go_simp <;> rfl) (by subst hW; go_simp <;> rfl) (by subst hW; go_simp <;> rfl) (by subst hW; go_simp <;> rfl) (by subst hW; go_simp <;> rfl) (by subst hW; go_simp <;> rfl) (by subst hW; go_simp <;> rfl) (by subst hW; go_simp <;> rfl)
      clear hW
      have Lpa := fun x : Later W.heap.size W => (x.cell pz).trans pa
      have Lpb := fun x : Later W.heap.size W => (x.cell pz).trans pb
      have Lpc := fun x : Later W.heap.size W => (x.cell pz).trans pc
      have Lpg := fun x : Later W.heap.size W => (x.cell pz).trans pg
      refine region_later W.heap.size (by kernel_rfl) (by kernel_rfl) ?_
      repeat (go_big_quiet_step (first | (go_at_call 49; exact later_of (Nat.le_refl _) (rpsane_any p _)) | (go_at_call 76; exact later_same (refWidth_any _ _))))
      refine wpQuiet_nil ?_
      intro x
      have hx : Below w.heap.size w x.at := hB.trans (x.below.mono hz)
      clear Lpa Lpb Lpc Lpg
      obtain ⟨p'a, p'b, p'c, p'g, p'd, p'e, p'f, p'h, p'z⟩ := cells4 x.below pz pa pb pc pg pd pe pf ph
      clear pa pb pc pd pe pf pg ph pz
      obtain ⟨q'a, q'b, q'c, q'g, q'd, q'e, q'f, q'h, q'z⟩ := cells4 x.below qz qa qb qc qg qd qe qf qh
      clear qa qb qc qd qe qf qg qh qz
      generalize x.at = w1 at *
      clear x hB hz W
      go_wp2
      refine bodyPost_ret (v := .tuple #[.agg #[.int .u64 0, .int .u64 0, .bool false, .int .i64 0], .bool false]) (by simp [*, results, Try.results56, go_sem] <;> rfl) rfl ⟨rfl, ?_⟩
      go_grown
    · have hv : pchild p v = (⟨setv p.a p.n v, p.n + 1⟩, true) := by unfold pchild; rw [hs, if_pos rfl, if_neg hn]
      rw [hv]
      have hn' : (p.n == wid p.a.v6) = false := by simp [hn]
      clear hv hs hn
      go_enter Try.func56, Try.ntmps56
      go_wp2_with fail
      generalize hW : World.alloc _ _ = W
      have hz : w.heap.size ≤ W.heap.size := by subst hW; go_size
      have hB : Below w.heap.size w W := by subst hW; go_grown
      obtain ⟨pa, pb, pc, pg, pd, pe, pf, ph, pz⟩ := cells4 (W := W) (b := w.heap.size) (Below.refl _ W) (by subst hW; go_size) (by subst hW; go_simp <;> rfl) (by subst hW; go_simp <;> rfl) (by subst hW; go_simp <;> rfl) (by subst hW; go_simp <;> rfl) (by subst hW; go_simp <;> rfl) (by subst hW; go_simp <;> rfl) (by subst hW; go_simp <;> rfl) (by subst hW; go_simp <;> rfl)
      obtain ⟨qa, qb, qc, qg, qd, qe, qf, qh, qz⟩ := cells4 (W := W) (b := w.heap.size + 1) (Below.refl _ W) (by subst hW; go_size) (by subst hW; go_simp <;> rfl) (by subst hW; go_simp <;> rfl) (by subst hW; go_simp <;> rfl) (by subst hW; go_simp <;> rfl) (by subst hW; go_simp <;> rfl) (by subst hW; go_simp <;> rfl) (by subst hW; go_simp <;> rfl) (by subst hW; go_simp <;> rfl)
      clear hW
      have Lpa := fun x : Later W.heap.size W => (x.cell pz).trans pa
      have Lpb := fun x : Later W.heap.size W => (x.cell pz).trans pb
      have Lpc := fun x : Later W.heap.size W => (x.cell pz).trans pc
      have Lpg := fun x : Later W.heap.size W => (x.cell pz).trans pg
      refine region_later W.heap.size (by kernel_rfl) (by kernel_rfl) ?_
      repeat (go_big_quiet_step (first | (go_at_call 49; exact later_of (Nat.le_refl _) (rpsane_any p _)) | (go_at_call 76; exact later_same (refWidth_any _ _))))
      refine wpQuiet_nil ?_
      intro x
      have hx : Below w.heap.size w x.at := hB.trans (x.below.mono hz)
      clear Lpa Lpb Lpc Lpg
      obtain ⟨p'a, p'b, p'c, p'g, p'd, p'e, p'f, p'h, p'z⟩ := cells4 x.below pz pa pb pc pg pd pe pf ph
      clear pa pb pc pd pe pf pg ph pz
      obtain ⟨q'a, q'b, q'c, q'g, q'd, q'e, q'f, q'h, q'z⟩ := cells4 x.below qz qa qb qc qg qd qe qf qh
      clear qa qb qc qd qe qf qg qh qz
      generalize x.at = w1 at *
      clear x hB hz W
      go_wp2_with fail
      obtain ⟨W, rfl⟩ : ∃ W, W = w1 := ⟨_, rfl⟩
      have hB := hx
      have hz := hx.size
      clear hx
      have Lp'a := fun x : Later W.heap.size W => (x.cell p'z).trans p'a
      have Lp'b := fun x : Later W.heap.size W => (x.cell p'z).trans p'b
      have Lp'c := fun x : Later W.heap.size W => (x.cell p'z).trans p'c
      have Lp'g := fun x : Later W.heap.size W => (x.cell p'z).trans p'g
      refine region_tail 10 W.heap.size (by kernel_rfl) (by kernel_rfl) ?_
      simp only [List.take_succ_cons, List.take_zero, List.drop_succ_cons, List.drop_zero]
      repeat (go_big_quiet_step ((go_at_call 85; exact later_of (Nat.le_refl _) (refSet_any _ _ _ _))))
      refine wpQuiet_nil ?_
      intro x
      have hx : Below w.heap.size w x.at := hB.trans (x.below.mono hz)
      clear Lp'a Lp'b Lp'c Lp'g
      obtain ⟨pa, pb, pc, pg, pd, pe, pf, ph, pz⟩ := cells4 x.below p'z p'a p'b p'c p'g p'd p'e p'f p'h
      clear p'a p'b p'c p'd p'e p'f p'g p'h p'z
      obtain ⟨qa, qb, qc, qg, qd, qe, qf, qh, qz⟩ := cells4 x.below q'z q'a q'b q'c q'g q'd q'e q'f q'h
      clear q'a q'b q'c q'd q'e q'f q'g q'h q'z
      generalize x.at = w2 at *
      clear x hB hz W
      go_wp2
      refine bodyPost_ret (v := .tuple #[.agg #[.int .u64 (u (Pf.mk (setv p.a p.n v) (p.n + 1)).a.hi), .int .u64 (u (Pf.mk (setv p.a p.n v) (p.n + 1)).a.lo), .bool (Pf.mk (setv p.a p.n v) (p.n + 1)).a.v6, .int .i64 (Pf.mk (setv p.a p.n v) (p.n + 1)).n], .bool true]) (by simp [*, results, Try.results56, go_sem] <;> rfl) rfl ⟨rfl, ?_⟩
      go_grown

set_option maxHeartbeats 1000000 in
theorem rpparent_any (p : Pf) (w : World) :
    Calls Try.prog 67 #[.agg #[.int .u64 (u p.a.hi), .int .u64 (u p.a.lo), .bool p.a.v6, .int .i64 p.n]] w fun e w' => e = .returned (.tuple #[.agg #[.int .u64 (u (pparent p).1.a.hi), .int .u64 (u (pparent p).1.a.lo), .bool (pparent p).1.a.v6, .int .i64 (pparent p).1.n], .bool (pparent p).2]) ∧ Below w.heap.size w w' := by
  cases hs : psane p
  · have hv : pparent p = (nilP, false) := by unfold pparent; rw [hs]; rfl
    rw [hv]
    have Hs := Lib.hid hs
    clear hv hs
    go_enter Try.func67, Try.ntmps67
    go_wp2_with fail
    refine (rpsane_any p _).mono ?_
    rintro e w1 ⟨rfl, hw1⟩
    have zw1 := hw1.size
    have bw1 := below_of (w := w) (by go_grown) hw1
    try simp at zw1
    rw [Hs.out]
    obtain ⟨pa, pb, pc, pg, pd, pe, pf, ph, pz⟩ := cells4 (b := w.heap.size) hw1 (by go_size) (by go_simp <;> rfl) (by go_simp <;> rfl) (by go_simp <;> rfl) (by go_simp <;> rfl) (by go_simp <;> rfl) (by go_simp <;> rfl) (by go_simp <;> rfl) (by go_simp <;> rfl)
    obtain ⟨qa, qb, qc, qg, qd, qe, qf, qh, qz⟩ := cells4 (b := w.heap.size + 1) hw1 (by go_size) (by go_simp <;> rfl) (by go_simp <;> rfl) (by go_simp <;> rfl) (by go_simp <;> rfl) (by go_simp <;> rfl) (by go_simp <;> rfl) (by go_simp <;> rfl) (by go_simp <;> rfl)
    clear hw1
    go_wp2
    refine bodyPost_ret (v := .tuple #[.agg #[.int .u64 0, .int .u64 0, .bool false, .int .i64 0], .bool false]) (by simp [*, results, Try.results67, go_sem] <;> rfl) rfl ⟨rfl, ?_⟩
    go_grown
  · obtain ⟨b0, b1⟩ := psane_bd hs
    have hw := wid_bd p.a.v6
    have Hs := Lib.hid hs
    by_cases hn : p.n = 0
    · have hv : pparent p = (nilP, false) := by unfold pparent; rw [hs, if_pos rfl, if_pos hn]
      rw [hv]
      have hn' : (p.n == 0) = true := by simp [hn]
      clear hv hs hn
      go_enter Try.func67, Try.ntmps67
      go_wp2_with fail
      refine (rpsane_any p _).mono ?_
      rintro e w1 ⟨rfl, hw1⟩
      have zw1 := hw1.size
      have bw1 := below_of (w := w) (by go_grown) hw1
      try simp at zw1
      rw [Hs.out]
      obtain ⟨pa, pb, pc, pg, pd, pe, pf, ph, pz⟩ := cells4 (b := w.heap.size) hw1 (by go_size) (by go_simp <;> rfl) (by go_simp <;> rfl) (by go_simp <;> rfl) (by go_simp <;> rfl) (by go_simp <;> rfl) (by go_simp <;> rfl) (by go_simp <;> rfl) (by go_simp <;> rfl)
      obtain ⟨qa, qb, qc, qg, qd, qe, qf, qh, qz⟩ := cells4 (b := w.heap.size + 1) hw1 (by go_size) (by go_simp <;> rfl) (by go_simp <;> rfl) (by go_simp <;> rfl) (by go_simp <;> rfl) (by go_simp <;> rfl) (by go_simp <;> rfl) (by go_simp <;> rfl) (by go_simp <;> rfl)
      clear hw1
      go_wp2
      refine bodyPost_ret (v := .tuple #[.agg #[.int .u64 0, .int .u64 0, .bool false, .int .i64 0], .bool false]) (by simp [*, results, Try.results67, go_sem] <;> rfl) rfl ⟨rfl, ?_⟩
      go_grown
    · have hv : pparent p = (pof p.a (p.n - 1), true) := by unfold pparent; rw [hs, if_pos rfl, if_neg hn]
      rw [hv]
      have hn' : (p.n == 0) = false := by simp [hn]
      clear hv hs hn
      go_enter Try.func67, Try.ntmps67
      go_wp2_with fail
      refine (rpsane_any p _).mono ?_
      rintro e w1 ⟨rfl, hw1⟩
      have zw1 := hw1.size
      have bw1 := below_of (w := w) (by go_grown) hw1
      try simp at zw1
      rw [Hs.out]
      obtain ⟨pa, pb, pc, pg, pd, pe, pf, ph, pz⟩ := cells4 (b := w.heap.size) hw1 (by go_size) (by go_simp <;> rfl) (by go_simp <;> rfl) (by go_simp <;> rfl) (by go_simp <;> rfl) (by go_simp <;> rfl) (by go_simp <;> rfl) (by go_simp <;> rfl) (by go_simp <;> rfl)
      obtain ⟨qa, qb, qc, qg, qd, qe, qf, qh, qz⟩ := cells4 (b := w.heap.size + 1) hw1 (by go_size) (by go_simp <;> rfl) (by go_simp <;> rfl) (by go_simp <;> rfl) (by go_simp <;> rfl) (by go_simp <;> rfl) (by go_simp <;> rfl) (by go_simp <;> rfl) (by go_simp <;> rfl)
      clear hw1
      go_wp2_with fail
      refine (rpof_any p.a (p.n - 1) _).mono ?_
      rintro e w2 ⟨rfl, hw2⟩
      have zw2 := hw2.size
      have bw2 := below_of (w := w) (by go_grown) hw2
      try simp at zw2
      obtain ⟨q'a, q'b, q'c, q'g, q'd, q'e, q'f, q'h, q'z⟩ := cells4 (b := w.heap.size + 1) hw2 (by go_size) (by go_simp <;> rfl) (by go_simp <;> rfl) (by go_simp <;> rfl) (by go_simp <;> rfl) (by go_simp <;> rfl) (by go_simp <;> rfl) (by go_simp <;> rfl) (by go_simp <;> rfl)
      clear hw2
      go_wp2
      refine bodyPost_ret (v := .tuple #[.agg #[.int .u64 (u (pof p.a (p.n - 1)).a.hi), .int .u64 (u (pof p.a (p.n - 1)).a.lo), .bool (pof p.a (p.n - 1)).a.v6, .int .i64 (pof p.a (p.n - 1)).n], .bool true]) (by simp [*, results, Try.results67, go_sem] <;> rfl) rfl ⟨rfl, ?_⟩
      go_grown

end Go.Proofs.Ytggceecolfebjaa

namespace Go.Proofs.Ytggceecolfebjaa
open Go.RowKit

set_option maxHeartbeats 1000000 in
theorem rpsib_any (p : Pf) (w : World) :
    Calls Try.prog 93 #[.agg #[.int .u64 (u p.a.hi), .int .u64 (u p.a.lo), .bool p.a.v6, .int .i64 p.n]] w fun e w' => e = .returned (.tuple #[.agg #[.int .u64 (u (psib p).1.a.hi), .int .u64 (u (psib p).1.a.lo), .bool (psib p).1.a.v6, .int .i64 (psib p).1.n], .bool (psib p).2]) ∧ Below w.heap.size w w' := by
  cases hs : psane p
  · have hv : psib p = (nilP, false) := by unfold psib pparent; rw [hs]; rfl
    rw [hv]
    have Hs := Lib.hid hs
    clear hv hs
    go_enter Try.func93, Try.ntmps93
    go_wp2_with fail
    refine (rpsane_any p _).mono ?_
    rintro e w1 ⟨rfl, hw1⟩
    have zw1 := hw1.size
    have bw1 := below_of (w := w) (by go_grown) hw1
    try simp at zw1
    rw [Hs.out]
    obtain ⟨pa, pb, pc, pg, pd, pe, pf, ph, pz⟩ := cells4 (b := w.heap.size) hw1 (by go_size) (by go_simp <;> rfl) (by go_simp <;> rfl) (by go_simp <;> rfl) (by go_simp <;> rfl) (by go_simp <;> rfl) (by go_simp <;> rfl) (by go_simp <;> rfl) (by go_simp <;> rfl)
    obtain ⟨qa, qb, qc, qg, qd, qe, qf, qh, qz⟩ := cells4 (b := w.heap.size + 1) hw1 (by go_size) (by go_simp <;> rfl) (by go_simp <;> rfl) (by go_simp <;> rfl) (by go_simp <;> rfl) (by go_simp <;> rfl) (by go_simp <;> rfl) (by go_simp <;> rfl) (by go_simp <;> rfl)
    clear hw1
    go_wp2
    refine bodyPost_ret (v := .tuple #[.agg #[.int .u64 0, .int .u64 0, .bool false, .int .i64 0], .bool false]) (by simp [*, results, Try.results93, go_sem] <;> rfl) rfl ⟨rfl, ?_⟩
    go_grown
  · obtain ⟨b0, b1⟩ := psane_bd hs
    have hw := wid_bd p.a.v6
    have Hs := Lib.hid hs
    by_cases hn : p.n = 0
    · have hv : psib p = (nilP, false) := by unfold psib pparent; rw [hs, if_pos rfl, if_pos hn]; rfl
      rw [hv]
      have hn' : (p.n == 0) = true := by simp [hn]
      clear hv hs hn
      go_enter Try.func93, Try.ntmps93
      go_wp2_with fail
      refine (rpsane_any p _).mono ?_
      rintro e w1 ⟨rfl, hw1⟩
      have zw1 := hw1.size
      have bw1 := below_of (w := w) (by go_grown) hw1
      try simp at zw1
      rw [Hs.out]
      obtain ⟨pa, pb, pc, pg, pd, pe, pf, ph, pz⟩ := cells4 (b := w.heap.size) hw1 (by go_size) (by go_simp <;> rfl) (by go_simp <;> rfl) (by go_simp <;> rfl) (by go_simp <;> rfl) (by go_simp <;> rfl) (by go_simp <;> rfl) (by go_simp <;> rfl) (by go_simp <;> rfl)
      obtain ⟨qa, qb, qc, qg, qd, qe, qf, qh, qz⟩ := cells4 (b := w.heap.size + 1) hw1 (by go_size) (by go_simp <;> rfl) (by go_simp <;> rfl) (by go_simp <;> rfl) (by go_simp <;> rfl) (by go_simp <;> rfl) (by go_simp <;> rfl) (by go_simp <;> rfl) (by go_simp <;> rfl)
      clear hw1
      go_wp2
      refine bodyPost_ret (v := .tuple #[.agg #[.int .u64 0, .int .u64 0, .bool false, .int .i64 0], .bool false]) (by simp [*, results, Try.results93, go_sem] <;> rfl) rfl ⟨rfl, ?_⟩
      go_grown
    · have hv := psib_eq p hs hn
      rw [hv]
      have hn' : (p.n == 0) = false := by simp [hn]
      have hbb : 0 ≤ bitv p.a (p.n - 1) ∧ bitv p.a (p.n - 1) ≤ 1 := by
        unfold bitv
        split
        · exact u_bit _
        · omega
      clear hv hs
      go_enter Try.func93, Try.ntmps93
      go_wp2_with fail
      refine (rpsane_any p _).mono ?_
      rintro e w1 ⟨rfl, hw1⟩
      have zw1 := hw1.size
      have bw1 := below_of (w := w) (by go_grown) hw1
      try simp at zw1
      rw [Hs.out]
      obtain ⟨pa, pb, pc, pg, pd, pe, pf, ph, pz⟩ := cells4 (b := w.heap.size) hw1 (by go_size) (by go_simp <;> rfl) (by go_simp <;> rfl) (by go_simp <;> rfl) (by go_simp <;> rfl) (by go_simp <;> rfl) (by go_simp <;> rfl) (by go_simp <;> rfl) (by go_simp <;> rfl)
      obtain ⟨qa, qb, qc, qg, qd, qe, qf, qh, qz⟩ := cells4 (b := w.heap.size + 1) hw1 (by go_size) (by go_simp <;> rfl) (by go_simp <;> rfl) (by go_simp <;> rfl) (by go_simp <;> rfl) (by go_simp <;> rfl) (by go_simp <;> rfl) (by go_simp <;> rfl) (by go_simp <;> rfl)
      clear hw1
      go_wp2_with fail
      obtain ⟨W, rfl⟩ : ∃ W, W = w1 := ⟨_, rfl⟩
      have hB := bw1
      have hz := bw1.size
      have Lpa := fun x : Later W.heap.size W => (x.cell pz).trans pa
      have Lpb := fun x : Later W.heap.size W => (x.cell pz).trans pb
      have Lpc := fun x : Later W.heap.size W => (x.cell pz).trans pc
      have Lpg := fun x : Later W.heap.size W => (x.cell pz).trans pg
      refine region_tail 16 W.heap.size (by kernel_rfl) (by kernel_rfl) ?_
      simp only [List.take_succ_cons, List.take_zero, List.drop_succ_cons, List.drop_zero]
      repeat (go_big_quiet_step (first | (go_at_call 58; exact later_of (Nat.le_refl _) (refBit_any p.a _ _)) | (go_at_call 85; exact later_of (Nat.le_refl _) (refSet_any p.a _ _ _))))
      refine wpQuiet_nil ?_
      intro x
      have hx : Below w.heap.size w x.at := hB.trans (x.below.mono hz)
      clear Lpa Lpb Lpc Lpg
      obtain ⟨q'a, q'b, q'c, q'g, q'd, q'e, q'f, q'h, q'z⟩ := cells4 x.below qz qa qb qc qg qd qe qf qh
      clear qa qb qc qd qe qf qg qh qz
      clear pa pb pc pd pe pf pg ph pz bw1 zw1
      generalize x.at = w2 at *
      clear x hB hz W
      go_wp2
      refine bodyPost_ret (v := .tuple #[.agg #[.int .u64 (u (Pf.mk (setv p.a (p.n - 1) (1 - bitv p.a (p.n - 1))) p.n).a.hi), .int .u64 (u (Pf.mk (setv p.a (p.n - 1) (1 - bitv p.a (p.n - 1))) p.n).a.lo), .bool (Pf.mk (setv p.a (p.n - 1) (1 - bitv p.a (p.n - 1))) p.n).a.v6, .int .i64 (Pf.mk (setv p.a (p.n - 1) (1 - bitv p.a (p.n - 1))) p.n).n], .bool true]) (by simp [*, results, Try.results93, go_sem] <;> rfl) rfl ⟨rfl, ?_⟩
      go_grown

set_option maxHeartbeats 400000 in
theorem rpcmp_any (p q : Pf) (w : World) :
    Calls Try.prog 77 #[.agg #[.int .u64 (u p.a.hi), .int .u64 (u p.a.lo), .bool p.a.v6, .int .i64 p.n], .agg #[.int .u64 (u q.a.hi), .int .u64 (u q.a.lo), .bool q.a.v6, .int .i64 q.n]] w fun e w' => e = .returned (.int .i64 (pcmp p q)) ∧ Below w.heap.size w w' := by
  by_cases h : cmpv p.a q.a = 0
  · have h' : (cmpv p.a q.a == 0) = true := by simp [h]
    have e0 := Lib.hid (show pcmp p q = cmpI p.n q.n from if_pos h)
    clear h
    by_cases h1 : p.n < q.n
    · have t1 : decide (p.n < q.n) = true := by simp [h1]
      have e1 := Lib.hid (show cmpI p.n q.n = -1 from if_pos h1)
      go_enter Try.func77, Try.ntmps77
      go_wp2_with fail
      refine (refCompare_any p.a q.a _).mono ?_
      rintro e w1 ⟨rfl, hw1⟩
      have zw1 := hw1.size
      have bw1 := below_of (w := w) (by go_grown) hw1
      try simp at zw1
      obtain ⟨pa, pb, pc, pg, pd, pe, pf, ph, pz⟩ := cells4 (b := w.heap.size) hw1 (by go_size) (by go_simp <;> rfl) (by go_simp <;> rfl) (by go_simp <;> rfl) (by go_simp <;> rfl) (by go_simp <;> rfl) (by go_simp <;> rfl) (by go_simp <;> rfl) (by go_simp <;> rfl)
      obtain ⟨qa, qb, qc, qg, qd, qe, qf, qh, qz⟩ := cells4 (b := w.heap.size + 1) hw1 (by go_size) (by go_simp <;> rfl) (by go_simp <;> rfl) (by go_simp <;> rfl) (by go_simp <;> rfl) (by go_simp <;> rfl) (by go_simp <;> rfl) (by go_simp <;> rfl) (by go_simp <;> rfl)
      clear hw1
      go_wp2
      go_ret
      exact ⟨ret_int (by rw [e0.out, e1.out]), bw1⟩
    · have t1 : decide (p.n < q.n) = false := by simp [h1]
      by_cases h2 : q.n < p.n
      · have t2 : decide (q.n < p.n) = true := by simp [h2]
        have e1 := Lib.hid (show cmpI p.n q.n = 1 from (if_neg h1).trans (if_pos h2))
        go_enter Try.func77, Try.ntmps77
        go_wp2_with fail
        refine (refCompare_any p.a q.a _).mono ?_
        rintro e w1 ⟨rfl, hw1⟩
        have zw1 := hw1.size
        have bw1 := below_of (w := w) (by go_grown) hw1
        try simp at zw1
        obtain ⟨pa, pb, pc, pg, pd, pe, pf, ph, pz⟩ := cells4 (b := w.heap.size) hw1 (by go_size) (by go_simp <;> rfl) (by go_simp <;> rfl) (by go_simp <;> rfl) (by go_simp <;> rfl) (by go_simp <;> rfl) (by go_simp <;> rfl) (by go_simp <;> rfl) (by go_simp <;> rfl)
        obtain ⟨qa, qb, qc, qg, qd, qe, qf, qh, qz⟩ := cells4 (b := w.heap.size + 1) hw1 (by go_size) (by go_simp <;> rfl) (by go_simp <;> rfl) (by go_simp <;> rfl) (by go_simp <;> rfl) (by go_simp <;> rfl) (by go_simp <;> rfl) (by go_simp <;> rfl) (by go_simp <;> rfl)
        clear hw1
        go_wp2
        go_ret
        exact ⟨ret_int (by rw [e0.out, e1.out]), bw1⟩
      · have t2 : decide (q.n < p.n) = false := by simp [h2]
        have e1 := Lib.hid (show cmpI p.n q.n = 0 from (if_neg h1).trans (if_neg h2))
        go_enter Try.func77, Try.ntmps77
        go_wp2_with fail
        refine (refCompare_any p.a q.a _).mono ?_
        rintro e w1 ⟨rfl, hw1⟩
        have zw1 := hw1.size
        have bw1 := below_of (w := w) (by go_grown) hw1
        try simp at zw1
        obtain ⟨pa, pb, pc, pg, pd, pe, pf, ph, pz⟩ := cells4 (b := w.heap.size) hw1 (by go_size) (by go_simp <;> rfl) (by go_simp <;> rfl) (by go_simp <;> rfl) (by go_simp <;> rfl) (by go_simp <;> rfl) (by go_simp <;> rfl) (by go_simp <;> rfl) (by go_simp <;> rfl)
        obtain ⟨qa, qb, qc, qg, qd, qe, qf, qh, qz⟩ := cells4 (b := w.heap.size + 1) hw1 (by go_size) (by go_simp <;> rfl) (by go_simp <;> rfl) (by go_simp <;> rfl) (by go_simp <;> rfl) (by go_simp <;> rfl) (by go_simp <;> rfl) (by go_simp <;> rfl) (by go_simp <;> rfl)
        clear hw1
        go_wp2
        go_ret
        exact ⟨ret_int (by rw [e0.out, e1.out]), bw1⟩
  · have h' : (cmpv p.a q.a == 0) = false := by simp [h]
    have e0 := Lib.hid (show pcmp p q = cmpv p.a q.a from if_neg h)
    clear h
    go_enter Try.func77, Try.ntmps77
    go_wp2_with fail
    refine (refCompare_any p.a q.a _).mono ?_
    rintro e w1 ⟨rfl, hw1⟩
    have zw1 := hw1.size
    have bw1 := below_of (w := w) (by go_grown) hw1
    try simp at zw1
    obtain ⟨pa, pb, pc, pg, pd, pe, pf, ph, pz⟩ := cells4 (b := w.heap.size) hw1 (by go_size) (by go_simp <;> rfl) (by go_simp <;> rfl) (by go_simp <;> rfl) (by go_simp <;> rfl) (by go_simp <;> rfl) (by go_simp <;> rfl) (by go_simp <;> rfl) (by go_simp <;> rfl)
    obtain ⟨qa, qb, qc, qg, qd, qe, qf, qh, qz⟩ := cells4 (b := w.heap.size + 1) hw1 (by go_size) (by go_simp <;> rfl) (by go_simp <;> rfl) (by go_simp <;> rfl) (by go_simp <;> rfl) (by go_simp <;> rfl) (by go_simp <;> rfl) (by go_simp <;> rfl) (by go_simp <;> rfl)
    clear hw1
    go_wp2
    go_ret
    exact ⟨ret_int e0.out.symm, bw1⟩

/-- The greatest number of first digits that covers both. -/
def jm (p q : Pf) : Int := min (min p.n q.n) (commonv p.a q.a)
theorem jm_step (p q : Pf) (hp : psane p = true) (hq : psane q = true) (hv : p.a.v6 = q.a.v6) : 0 ≤ jm p q ∧ ∀ m, jm p q ≤ m → m ≤ min p.n q.n → (pcov (pof p.a m) q = true ↔ m = jm p q) := by
  obtain ⟨s1, s2, s3, s4⟩ := (psane_iff p).1 hp
  obtain ⟨t1, t2, t3, t4⟩ := (psane_iff q).1 hq
  obtain ⟨k, hk, _⟩ := common_spec p.a q.a hv
  have h0 : 0 ≤ jm p q := by unfold jm; omega
  refine ⟨h0, fun m h1 h2 => ?_⟩
  rw [pcov_of p q hp hq hv m (by omega) (by omega)]
  unfold jm at *
  omega

end Go.Proofs.Ytggceecolfebjaa
