/-
  How a list of things done with routes that comes in is read. No condition.
-/
import Derived.Test.YtnepmlhbheaonaaE1
import Derived.Laws.AppendOwnNone
import Derived.Maps.OwnSet
import Derived.Deep.DeepCutAuto
import Derived.Deep.RegionHeld3
import Derived.Laws.BitsLemmas
import Derived.Test.YtnepmlhbheaonaaRowP
import Derived.Deep.Slices
namespace Go.Proofs.Ytnepmlhbheaonaa
open Go.RowKit
set_option maxRecDepth 100000

/-- Pairs laid behind pairs. -/
theorem pairs_append (W : World) (base base' : Nat) (v v2 : Value) (a b : List Pr) (ty : TypeId) (hown : W.ownsRow base 90 5 v a.length (prv a)) (h2 : W.ownsRow base' 90 5 v2 b.length (prv b)) (hb : a.length + b.length ≤ 1000000000) (hbase : base ≤ W.heap.size) :
    ∃ v' w', (Builtin.append_ #[80, 80] ty #[v, v2]).run Try.prog W = .ok v' w' ∧ w'.ownsRow base 90 5 v' (a ++ b).length (prv (a ++ b)) ∧ W.grownBy w' v.ownBlock := by
  obtain ⟨i0, hi0, hz0, hz1, hz2⟩ := info_parts info_pr
  rcases h2.2 with ⟨rfl, hn⟩ | ⟨g, cap, cur, rfl, _, hg, hnc, hm, hs, ht⟩
  · have e : b = [] := List.eq_nil_of_length_eq_zero hn
    subst e
    refine ⟨v, W, ?_, by simpa using hown, World.grownBy.refl W _⟩
    rcases hown.2 with ⟨rfl, h0⟩ | ⟨g, cap, cur, rfl, _, _, hnc, _⟩
    · simp [Builtin.append_, run_underlying Try.underlying80, sizeOf, typeInfo, hi0, Builtin.lenOf, Builtin.firstCells]
    · simp [Builtin.append_, run_underlying Try.underlying80, sizeOf, typeInfo, hi0, Builtin.lenOf, Builtin.firstCells, hnc, storeCells]
  · obtain ⟨v', w', e1, e2, e3, _, _⟩ := run_append_own_at (P := Try.prog) W base 80 ty 90 i0 _ 5 40 Try.underlying80 hi0 hz0 hz1 hz2 rfl (by omega) v a.length _ hown ⟨g, 0, none⟩ b.length cap (prv b) (prv_len b) (h2.cells (g := g) rfl) (by
      intro u hu
      unfold prv at hu
      obtain ⟨x, _, hx⟩ := List.mem_flatMap.1 hu
      exact pr5_cell x u hx) (by simp only [maxLen]; omega) (by omega) hbase
    exact ⟨v', w', e1, by rw [prv_append, List.length_append]; exact e2, e3⟩
section
variable {ops : Array Oper} {o : Oper} {a : Act} {w : World} {Q : Exit → Act → World → Prop}
theorem wpList_pairs {rest : List Oper} (hgd : o.guard = none) (s x : Operand) (ho : o.op = .call { callee := .builtin .append, args := #[s, x], argTypes := #[80, 80] }) (base base' : Nat) (v v2 : Value) (l m : List Pr) (hs : a.eval s = v) (hx : a.eval x = v2) (hown : w.ownsRow base 90 5 v l.length (prv l)) (h2 : w.ownsRow base' 90 5 v2 m.length (prv m))
    (hb : l.length + m.length ≤ 1000000000) (hbase : base ≤ w.heap.size)
    (h : ∀ v' w', w'.ownsRow base 90 5 v' (l ++ m).length (prv (l ++ m)) → Below base w w' → wpList Try.prog ops Q rest (a.put o.dst v') w') : wpList Try.prog ops Q (o :: rest) a w := by
  refine wpList_plain hgd fun _ hK => ?_
  obtain ⟨v', w', e1, e2, e3⟩ := pairs_append w base base' v v2 l m o.type hown h2 hb hbase
  unfold Oper.wp execOp
  simp only [ho, resolve, invoke, builtin, Sem.run_bind, Sem.run_pure, Result.andThen_ok, List.map_toArray, List.map_cons, List.map_nil, hs, hx, e1]
  exact hK _ _ (h v' w' e2 ((Below.refl base w).grown e3 hbase (own_ge hown)))
end
def root4 : Pf := ⟨⟨0#64, 0#64, false⟩, 0⟩
def root6 : Pf := ⟨⟨0#64, 0#64, true⟩, 0⟩
theorem root_sane : psane root4 = true ∧ psane root6 = true := by decide +kernel
theorem cov_root {p : Pf} (hp : psane p = true) : pcov root4 p = !p.a.v6 ∧ pcov root6 p = p.a.v6 := by
  have h0 := (psane_bd hp).1
  have key : ∀ r : Pf, psane r = true → r.n = 0 → (pcov r p = true ↔ r.a.v6 = p.a.v6) := by
    intro r hr hn
    rw [pcov_iff]
    constructor
    · exact fun h => h.2.2.2.1
    · intro h
      refine ⟨hr, hp, by omega, h, fun j hj => ?_⟩
      rw [hn] at hj
      rw [D_ge _ _ (by omega), D_ge _ _ (by omega)]
  have k4 := key root4 root_sane.1 rfl
  have k6 := key root6 root_sane.2 rfl
  cases hv : p.a.v6
  · rw [hv] at k4 k6
    refine ⟨k4.2 rfl, ?_⟩
    cases hc : pcov root6 p
    · rfl
    · exact absurd (k6.1 hc) (by simp [root6])
  · rw [hv] at k4 k6
    refine ⟨?_, k6.2 rfl⟩
    cases hc : pcov root4 p
    · rfl
    · exact absurd (k4.1 hc) (by simp [root4])
/-- Those of the fourth version, then those of the sixth, are all. -/
theorem all_eq {L : List Pr} (h : Srt L) : (L.filter fun x => pcov root4 x.p) ++ (L.filter fun x => pcov root6 x.p) = L := by
  refine srt_ext ⟨fun x hx => ?_, ?_⟩ h (fun x => ?_)
  · rcases List.mem_append.1 hx with hx | hx
    · exact h.1 x (List.mem_filter.1 hx).1
    · exact h.1 x (List.mem_filter.1 hx).1
  · rw [List.pairwise_append]
    refine ⟨(filter_srt h _).2, (filter_srt h _).2, fun x hx y hy => ?_⟩
    obtain ⟨x1, x2⟩ := List.mem_filter.1 hx
    obtain ⟨y1, y2⟩ := List.mem_filter.1 hy
    have e1 := (cov_root (h.1 x x1)).1
    have e2 := (cov_root (h.1 y y1)).2
    rw [x2] at e1
    rw [y2] at e2
    have v1 : x.p.a.v6 = false := by simpa using e1.symm
    have := cmp_kind x.p.a y.p.a (by rw [v1, ← e2]; simp)
    rw [← e2] at this
    unfold pcmp
    rw [this]
    simp
  · rw [List.mem_append, List.mem_filter, List.mem_filter]
    constructor
    · rintro (⟨a, _⟩ | ⟨a, _⟩) <;> exact a
    · intro hx
      have := cov_root (h.1 x hx)
      rw [this.1, this.2]
      cases x.p.a.v6
      · exact .inl ⟨hx, rfl⟩
      · exact .inr ⟨hx, rfl⟩
theorem own_fresh {w w' : World} {b1 : Nat} {e : TypeId} {size n : Nat} {v : Value} {xs : List Value} (h : w.ownsRow b1 e size v n xs) (hb : Below w.heap.size w w') : w'.ownsRow b1 e size v n xs := own_block h (fun b _ hl => hb.block b hl)
set_option maxHeartbeats 1000000 in
theorem all_any {w : World} {t : Nat} {S : Nat → Prop} {L : List Pr} {most : Nat} (h : Trie w t S L most) : Calls Try.prog 40 #[.pointer (some ⟨t, 0, none⟩)] w (ListPost w L) := by
  have hln : L.length ≤ 1000000000 := by
    obtain ⟨T, -, hr, hl, hm⟩ := h
    have := rep_len hr
    omega
  have hlf := fun f : Pr → Bool => List.length_filter_le f L
  have HT := Lib.hid h
  have HE := Lib.hid (all_eq h.srt)
  have HLF := Lib.hid hlf
  have HL := Lib.hid hln
  have c4 : ∀ W, Trie W t S L most → Calls Try.prog 46 #[.pointer (some ⟨t, 0, none⟩), .agg #[.int .u64 0, .int .u64 0, .bool false, .int .i64 0]] W (ListPost W (L.filter fun x => pcov root4 x.p)) := fun W h => trie_under h root4
  have c6 : ∀ W, Trie W t S L most → Calls Try.prog 46 #[.pointer (some ⟨t, 0, none⟩), .agg #[.int .u64 0, .int .u64 0, .bool true, .int .i64 0]] W (ListPost W (L.filter fun x => pcov root6 x.p)) := fun W h => trie_under h root6
  have C4 := Lib.hid c4
  have C6 := Lib.hid c6
  obtain ⟨L4, hL4⟩ : ∃ l, (L.filter fun x => pcov root4 x.p) = l := ⟨_, rfl⟩
  obtain ⟨L6, hL6⟩ : ∃ l, (L.filter fun x => pcov root6 x.p) = l := ⟨_, rfl⟩
  have k4 := HLF.out fun x => pcov root4 x.p
  have k6 := HLF.out fun x => pcov root6 x.p
  rw [hL4] at k4 C4 HE
  rw [hL6] at k6 C6 HE
  have hL := HL.out
  have hsum : L4.length + L6.length = L.length := by rw [← HE.out, List.length_append]
  have k7 : L4.length + L6.length ≤ 1000000000 := by omega
  have HS := Lib.hid hsum
  clear h hlf hln c4 c6 hL4 hL6 HLF hsum
  go_enter Try.func40, Try.ntmps40
  go_wp2_with fail
  refine (C4.out _ (HT.out.keep (by go_grown))).mono ?_
  rintro e w1 ⟨v1, rfl, ho1, hb1⟩
  have b1 : Below w.heap.size w w1 := below_of (by go_grown) hb1
  have he : w1.ownsRow w.heap.size 90 5 (.slice (some ⟨w.heap.size, 0, none⟩) 0 0) ([] : List Pr).length (prv []) := own_block ⟨rfl, .inr ⟨w.heap.size, 0, #[], rfl, Nat.le_refl _, heap_alloc_new w _, Nat.le_refl _, by simp [maxLen], rfl, rfl⟩⟩ (fun b _ hl => hb1.block b hl)
  have z1 := hb1.size
  have z1' : w.heap.size ≤ w1.heap.size := b1.size
  have HO1 := Lib.hid ho1
  have HE1 := Lib.hid he
  obtain ⟨A1, cc1, rfl, -⟩ := own_val ho1
  clear ho1 he hb1
  go_wp2_with (
    at_builtin
    refine wpList_pairs rfl (.tmp 4) (.tmp 7) rfl w.heap.size _ _ _ [] L4 (by rfl) (by rfl) HE1.out HO1.out (by simp; omega) z1' ?_
    intro v2 w2 ho2 hb2
    have HO2 := Lib.hid ho2
    have b2 := b1.trans hb2
    obtain ⟨A2, cc2, rfl, -⟩ := own_val ho2
    clear ho2 hb2
    )
  refine (C6.out _ (HT.out.keep b2)).mono ?_
  rintro e w3 ⟨v3, rfl, ho3, hb3⟩
  have b3 := b2.trans (hb3.mono b2.size)
  have HO3 := Lib.hid ho3
  have HO4 := Lib.hid (own_fresh HO2.out hb3)
  obtain ⟨A3, cc3, rfl, -⟩ := own_val ho3
  have z3 := b3.size
  have k8 : ([] ++ L4 : List Pr).length + L6.length ≤ 1000000000 := by simpa using k7
  clear ho3 hb3 HO1 HE1 HO2
  go_wp2_with (
    at_builtin
    refine wpList_pairs rfl (.tmp 9) (.tmp 13) rfl w.heap.size _ _ _ ([] ++ L4) L6 (by rfl) (by rfl) HO4.out HO3.out k8 z3 ?_
    intro v5 w5 ho5 hb5
    have HO5 := Lib.hid ho5
    have b5 := b3.trans hb5
    obtain ⟨A5, cc5, rfl, -⟩ := own_val ho5
    clear ho5 hb5
    )
  go_ret
  refine ⟨.slice A5 L.length cc5, ?_, ?_, b5⟩
  · rw [← HS.out]
    rfl
  have e := HO5.out
  rw [List.nil_append, HE.out] at e
  exact e

end Go.Proofs.Ytnepmlhbheaonaa

namespace Go.Proofs.Ytnepmlhbheaonaa
open Go.RowKit
set_option maxRecDepth 100000

/-- A struct's type of a pair's five cells, and that of its slices. -/
structure Five (E SL : TypeId) : Prop where
  info : (Try.prog.info? E).map (fun i => (i.zero, i.size, i.bytes)) = some (some (.agg #[.int .u64 0, .int .u64 0, .bool false, .int .i64 0, .int .i64 0]), 5, 40)
  sl : Try.prog.underlying SL = some (.slice E)
theorem five_pair : Five 90 80 := ⟨by kernel_rfl, Try.underlying80⟩
theorem five_ref : Five 98 68 := ⟨by kernel_rfl, Try.underlying68⟩
theorem five_route : Five 37 45 := ⟨by kernel_rfl, Try.underlying45⟩
theorem row_cell {E : TypeId} {w : World} {base n : Nat} {v : Value} {l : List Pr} (h : w.ownsRow base E 5 v n (prv l)) (hn : n = l.length) {k : Nat} (hk : k < l.length) : ∃ g c, v = .slice (some ⟨g, 0, none⟩) n c ∧ base ≤ g ∧ g < w.heap.size ∧ ∀ j, j < 5 → w.cell? ⟨g, k * 5 + j, none⟩ = (pr5 l[k])[j]? := by
  obtain ⟨g, cap, rfl, hb, hlt⟩ := h.form (by omega)
  refine ⟨g, cap, rfl, hb, hlt, fun j hj => ?_⟩
  rw [h.cellAt (k * 5 + j) (by omega), prv_at l k hk j hj]
/-- Rows laid behind rows. -/
theorem fives_append {E SL : TypeId} (F : Five E SL) (W : World) (base base' : Nat) (v v2 : Value) (a b : List Pr) (ty : TypeId) (hown : W.ownsRow base E 5 v a.length (prv a)) (h2 : W.ownsRow base' E 5 v2 b.length (prv b)) (hb : a.length + b.length ≤ 1000000000) (hbase : base ≤ W.heap.size) :
    ∃ v' w', (Builtin.append_ #[SL, SL] ty #[v, v2]).run Try.prog W = .ok v' w' ∧ w'.ownsRow base E 5 v' (a ++ b).length (prv (a ++ b)) ∧ W.grownBy w' v.ownBlock := by
  obtain ⟨i0, hi0, hz0, hz1, hz2⟩ := info_parts F.info
  rcases h2.2 with ⟨rfl, hn⟩ | ⟨g, cap, cur, rfl, _, hg, hnc, hm, hs, ht⟩
  · have e : b = [] := List.eq_nil_of_length_eq_zero hn
    subst e
    refine ⟨v, W, ?_, by simpa using hown, World.grownBy.refl W _⟩
    rcases hown.2 with ⟨rfl, h0⟩ | ⟨g, cap, cur, rfl, _, _, hnc, _⟩
    · simp [Builtin.append_, run_underlying F.sl, sizeOf, typeInfo, hi0, Builtin.lenOf, Builtin.firstCells]
    · simp [Builtin.append_, run_underlying F.sl, sizeOf, typeInfo, hi0, Builtin.lenOf, Builtin.firstCells, hnc, storeCells]
  · obtain ⟨v', w', e1, e2, e3, _, _⟩ := run_append_own_at (P := Try.prog) W base SL ty E i0 _ 5 40 F.sl hi0 hz0 hz1 hz2 rfl (by omega) v a.length _ hown ⟨g, 0, none⟩ b.length cap (prv b) (prv_len b) (h2.cells (g := g) rfl) (by
      intro u hu
      unfold prv at hu
      obtain ⟨x, _, hx⟩ := List.mem_flatMap.1 hu
      exact pr5_cell x u hx) (by simp only [maxLen]; omega) (by omega) hbase
    exact ⟨v', w', e1, by rw [prv_append, List.length_append]; exact e2, e3⟩
section
variable {ops : Array Oper} {o : Oper} {a : Act} {w : World} {Q : Exit → Act → World → Prop}
theorem wpList_fives {E SL : TypeId} (F : Five E SL) {rest : List Oper} (hgd : o.guard = none) (s x : Operand) (ho : o.op = .call { callee := .builtin .append, args := #[s, x], argTypes := #[SL, SL] }) (base base' : Nat) (v v2 : Value) (l m : List Pr) (hs : a.eval s = v) (hx : a.eval x = v2) (hown : w.ownsRow base E 5 v l.length (prv l)) (h2 : w.ownsRow base' E 5 v2 m.length (prv m))
    (hb : l.length + m.length ≤ 1000000000) (hbase : base ≤ w.heap.size)
    (h : ∀ v' w', w'.ownsRow base E 5 v' (l ++ m).length (prv (l ++ m)) → Below base w w' → wpList Try.prog ops Q rest (a.put o.dst v') w') : wpList Try.prog ops Q (o :: rest) a w := by
  refine wpList_plain hgd fun _ hK => ?_
  obtain ⟨v', w', e1, e2, e3⟩ := fives_append F w base base' v v2 l m o.type hown h2 hb hbase
  unfold Oper.wp execOp
  simp only [ho, resolve, invoke, builtin, Sem.run_bind, Sem.run_pure, Result.andThen_ok, List.map_toArray, List.map_cons, List.map_nil, hs, hx, e1]
  exact hK _ _ (h v' w' e2 ((Below.refl base w).grown e3 hbase (own_ge hown)))
theorem wpList_five1 {E SL : TypeId} (F : Five E SL) {rest : List Oper} (hgd : o.guard = none) (s x : Operand) (ho : o.op = .call { callee := .builtin .append, args := #[s, x], argTypes := #[SL, SL] }) (base : Nat) (v : Value) (n : Nat) (l : List Pr) (hn : n = l.length) (hs : a.eval s = v)
    (hown : w.ownsRow base E 5 v n (prv l)) (g : Nat) (r : Pr) (hx : a.eval x = .slice (some ⟨g, 0, none⟩) 1 1) (hg : w.heap[g]? = some (.cells (pr5 r).toArray E (0, 0))) (hb : n ≤ 1000000000) (hbase : base ≤ w.heap.size)
    (h : ∀ v' w', w'.ownsRow base E 5 v' (n + 1) (prv (l ++ [r])) → Below base w w' → wpList Try.prog ops Q rest (a.put o.dst v') w') : wpList Try.prog ops Q (o :: rest) a w := by
  subst hn
  obtain ⟨i0, hi0, hz0, hz1, hz2⟩ := info_parts F.info
  refine wpList_append_own w hgd s x _ ho base E i0 _ 5 40 F.sl hi0 hz0 hz1 hz2 rfl (by omega) v _ _ hs hown ⟨g, 0, none⟩ 1 1 (pr5 r) hx rfl (World.news_of_block (cs := (pr5 r).toArray) hg) (pr5_cell _) (by simp only [maxLen]; omega) (by omega) hbase ?_
  intro v' w' h1 h2 _
  refine h v' w' ?_ ((Below.refl base w).grown h2 hbase (own_ge hown))
  rw [prv_append, prv_one]
  exact h1
end

theorem y5_then {G : Prop} {W w1 : World} {b : Nat} {c0 c1 c2 c3 c4 : Value} (hb : Below W.heap.size W w1) (hlt : b < W.heap.size) (h0 : W.cell? ⟨b, 0, none⟩ = some c0) (h1 : W.cell? ⟨b, 1, none⟩ = some c1) (h2 : W.cell? ⟨b, 2, none⟩ = some c2) (h3 : W.cell? ⟨b, 3, none⟩ = some c3) (h4 : W.cell? ⟨b, 4, none⟩ = some c4)
    (f0 : W.frozen? ⟨b, 0, none⟩ = false) (f1 : W.frozen? ⟨b, 1, none⟩ = false) (f2 : W.frozen? ⟨b, 2, none⟩ = false) (f3 : W.frozen? ⟨b, 3, none⟩ = false) (f4 : W.frozen? ⟨b, 4, none⟩ = false)
    (k : w1.cell? ⟨b, 0, none⟩ = some c0 ∧ w1.cell? ⟨b, 1, none⟩ = some c1 ∧ w1.cell? ⟨b, 2, none⟩ = some c2 ∧ w1.cell? ⟨b, 3, none⟩ = some c3 ∧ w1.cell? ⟨b, 4, none⟩ = some c4 ∧
      w1.frozen? ⟨b, 0, none⟩ = false ∧ w1.frozen? ⟨b, 1, none⟩ = false ∧ w1.frozen? ⟨b, 2, none⟩ = false ∧ w1.frozen? ⟨b, 3, none⟩ = false ∧ w1.frozen? ⟨b, 4, none⟩ = false ∧ b < w1.heap.size → G) : G :=
  k ⟨(hb.cell (p := ⟨b, 0, none⟩) hlt).trans h0, (hb.cell (p := ⟨b, 1, none⟩) hlt).trans h1, (hb.cell (p := ⟨b, 2, none⟩) hlt).trans h2, (hb.cell (p := ⟨b, 3, none⟩) hlt).trans h3, (hb.cell (p := ⟨b, 4, none⟩) hlt).trans h4,
    (hb.frozen (p := ⟨b, 0, none⟩) hlt).trans f0, (hb.frozen (p := ⟨b, 1, none⟩) hlt).trans f1, (hb.frozen (p := ⟨b, 2, none⟩) hlt).trans f2, (hb.frozen (p := ⟨b, 3, none⟩) hlt).trans f3, (hb.frozen (p := ⟨b, 4, none⟩) hlt).trans f4, Nat.lt_of_lt_of_le hlt hb.size⟩

end Go.Proofs.Ytnepmlhbheaonaa

namespace Go.Proofs.Ytnepmlhbheaonaa
open Go.RowKit Go.Maps
set_option maxRecDepth 100000

/-- How many unlike numbers. -/
def unl : List Int → Nat
  | [] => 0
  | x :: r => unl r + if x ∈ r then 0 else 1
theorem unl_perm {a b : List Int} (h : a.Perm b) : unl a = unl b := by
  induction h with
  | nil => rfl
  | cons x h ih => simp only [unl, ih, h.mem_iff]
  | swap x y l =>
    simp only [unl, List.mem_cons]
    by_cases h1 : x = y
    · subst h1
      rfl
    · have h2 : ¬ y = x := fun e => h1 e.symm
      by_cases h3 : x ∈ l <;> by_cases h4 : y ∈ l <;> simp [h1, h2, h3, h4]
  | trans _ _ i1 i2 => rw [i1, i2]
theorem unl_le (l : List Int) : unl l ≤ l.length := by
  induction l with
  | nil => exact Nat.le_refl _
  | cons x r ih =>
    simp only [unl, List.length_cons]
    split <;> omega
/-- A list without doubles that has the same numbers is as long. -/
theorem unl_dist : ∀ {l d : List Int}, d.Nodup → (∀ x, x ∈ d ↔ x ∈ l) → d.length = unl l := by
  intro l
  induction l with
  | nil =>
    intro d _ h
    have : d = [] := List.eq_nil_iff_forall_not_mem.2 fun x hx => by have := (h x).1 hx; cases this
    subst this
    rfl
  | cons y r ih =>
    intro d hd h
    simp only [unl]
    by_cases hy : y ∈ r
    · rw [if_pos hy]
      exact ih hd fun x => by
        rw [h x, List.mem_cons]
        exact ⟨fun e => e.elim (fun e => e ▸ hy) id, .inr⟩
    · rw [if_neg hy]
      have hyd : y ∈ d := (h y).2 (List.mem_cons_self)
      have h1 := ih (d := d.erase y) (hd.erase y) (fun x => by
        rw [hd.mem_erase_iff, h x, List.mem_cons]
        constructor
        · rintro ⟨e1, e2⟩
          exact e2.elim (fun e => absurd e e1) id
        · intro hx
          exact ⟨fun e => hy (e ▸ hx), .inr hx⟩)
      have h2 := List.length_erase_of_mem hyd
      have h3 := List.length_pos_of_mem hyd
      omega
def hopsL (L : List Pr) : List Int := L.map (·.v)
theorem mem_hops {L : List Pr} {k : Int} : k ∈ hopsL L ↔ ∃ x ∈ L, x.v = k := by
  unfold hopsL
  exact List.mem_map
theorem put_perm {L : List Pr} {p : Pf} {v : Int} (h : Srt L) (hp : psane p = true) : (putL p v L).Perm (⟨p, v⟩ :: delL p L) := by
  have h1 : (putL p v L).Nodup := (put_srt (v := v) h hp).2.imp (fun {x y} hxy e => by rw [e, pcmp_self] at hxy; omega)
  have h2 : (⟨p, v⟩ :: delL p L).Nodup := by
    rw [List.nodup_cons]
    refine ⟨fun e => ((mem_del _).1 e).2 rfl, ?_⟩
    exact (del_srt (p := p) h).2.imp (fun {x y} hxy e => by rw [e, pcmp_self] at hxy; omega)
  refine (List.perm_ext_iff_of_nodup h1 h2).2 fun x => ?_
  rw [mem_put h hp, List.mem_cons, mem_del]
theorem del_perm {L : List Pr} {p : Pf} {v : Int} (h : Srt L) (hl : lk L p = some v) : L.Perm (⟨p, v⟩ :: delL p L) := by
  have h1 : L.Nodup := h.2.imp (fun {x y} hxy e => by rw [e, pcmp_self] at hxy; omega)
  have h2 : (⟨p, v⟩ :: delL p L).Nodup := by
    rw [List.nodup_cons]
    refine ⟨fun e => ((mem_del _).1 e).2 rfl, ?_⟩
    exact (del_srt (p := p) h).2.imp (fun {x y} hxy e => by rw [e, pcmp_self] at hxy; omega)
  refine (List.perm_ext_iff_of_nodup h1 h2).2 fun x => ?_
  rw [List.mem_cons, mem_del]
  constructor
  · intro hx
    by_cases e : x.p = p
    · left
      have := lk_some h hx
      rw [e, hl] at this
      cases x
      simp_all
    · exact .inr ⟨hx, e⟩
  · rintro (rfl | ⟨h1, _⟩)
    · exact lk_mem hl
    · exact h1
theorem hops_put {L : List Pr} {p : Pf} {v : Int} (h : Srt L) (hp : psane p = true) : (hopsL (putL p v L)).Perm (v :: hopsL (delL p L)) := (put_perm h hp).map _
theorem hops_del {L : List Pr} {p : Pf} {v : Int} (h : Srt L) (hl : lk L p = some v) : (hopsL L).Perm (v :: hopsL (delL p L)) := (del_perm h hl).map _
theorem unl_cons (x : Int) (r : List Int) : unl (x :: r) = unl r + if r.count x = 0 then 1 else 0 := by
  simp only [unl]
  by_cases h : x ∈ r
  · rw [if_pos h, if_neg (by have := List.count_pos_iff.2 h; omega)]
  · rw [if_neg h, if_pos (List.count_eq_zero.2 h)]
/-- How many unlike hops there would be then. -/
theorem hops_then {L : List Pr} {p : Pf} {v : Int} (h : Srt L) (hp : psane p = true) :
    (unl (hopsL (putL p v L)) : Int) = unl (hopsL L) - (match lk L p with | none => 0 | some o => if o ≠ v ∧ (hopsL L).count o = 1 then 1 else 0) + (if (hopsL L).count v = 0 then 1 else 0) := by
  rw [unl_perm (hops_put h hp), unl_cons]
  cases hl : lk L p with
  | none =>
    rw [del_none hl]
    simp only
    split <;> omega
  | some o =>
    have hh := hops_del h hl
    have hc : ∀ k, (hopsL L).count k = (hopsL (delL p L)).count k + if o = k then 1 else 0 := by
      intro k
      rw [hh.count_eq, List.count_cons]
      by_cases e : o = k
      · simp [e]
      · simp [e]
    rw [unl_perm hh, unl_cons]
    simp only
    rw [hc o, hc v]
    simp only [if_true]
    by_cases e : o = v
    · subst e
      simp
    · simp only [e, ne_eq, not_false_eq_true, true_and, if_false, Nat.add_zero]
      by_cases e1 : (hopsL (delL p L)).count o = 0
      · simp [e1]
        split <;> rfl
      · simp [e1]
        split <;> rfl

/-- A number as the map's datum. -/
abbrev i64 (x : Int) : DataW Unit := .lit (.int .i64 x)
/-- What a map says of a list of numbers: which there are, how often, and how many unlike. -/
structure Uses (D : DataW Unit) (hs : List Int) : Prop where
  tidy : Tidy D
  has : ∀ k, Maps.has D (.int .i64 k) = decide (0 < hs.count k)
  at_ : ∀ k, D.atKey (.int .i64 k) (i64 0) = i64 (hs.count k : Int)
  size : Maps.size D = unl hs
theorem uses_nil : Uses (.map []) [] := ⟨tidy_empty, fun _ => rfl, fun _ => rfl, rfl⟩
theorem count_ne {j k : Int} {hs : List Int} (e : ¬ j = k) : (k :: hs).count j = hs.count j := by
  have e' : ¬ k = j := fun h => e h.symm
  simp [e']
theorem Uses.perm {D : DataW Unit} {a b : List Int} (h : Uses D a) (hp : a.Perm b) : Uses D b :=
  ⟨h.tidy, fun k => by rw [h.has, hp.count_eq], fun k => by rw [h.at_, hp.count_eq], by rw [h.size, unl_perm hp]⟩
theorem key_int (k : Int) : WideAt.IsKeyLit (.int .i64 k) := by trivial
theorem int_ne {a b : Int} (h : a ≠ b) : (Lit.int .i64 a) ≠ Lit.int .i64 b := fun e => h (by cases e; rfl)
theorem Uses.use {D : DataW Unit} {hs : List Int} (h : Uses D hs) (k : Int) : Uses (D.put (.int .i64 k) (i64 ((hs.count k : Int) + 1))) (k :: hs) := by
  refine ⟨h.tidy.put (key_int k) _, fun j => ?_, fun j => ?_, ?_⟩
  · by_cases e : j = k
    · subst e
      rw [has_put_same h.tidy.isMap (key_int _)]
      simp
    · rw [has_put_other (int_ne e), h.has, count_ne e]
  · by_cases e : j = k
    · subst e
      rw [atKey_put_same h.tidy.isMap (key_int _)]
      simp
    · rw [atKey_put_other (int_ne e), h.at_, count_ne e]
  · rw [size_put h.tidy, h.has, h.size, unl_cons]
    by_cases e : hs.count k = 0
    · simp [e]
    · have : 0 < hs.count k := by omega
      simp [e, this]
theorem Uses.less {D : DataW Unit} {hs : List Int} {k : Int} (h : Uses D (k :: hs)) (h0 : hs.count k ≠ 0) : Uses (D.put (.int .i64 k) (i64 (hs.count k : Int))) hs := by
  refine ⟨h.tidy.put (key_int k) _, fun j => ?_, fun j => ?_, ?_⟩
  · by_cases e : j = k
    · subst e
      rw [has_put_same h.tidy.isMap (key_int _)]
      simp
      exact List.count_pos_iff.1 (by omega)
    · rw [has_put_other (int_ne e), h.has, count_ne e]
  · by_cases e : j = k
    · subst e
      rw [atKey_put_same h.tidy.isMap (key_int _)]
    · rw [atKey_put_other (int_ne e), h.at_, count_ne e]
  · rw [size_put h.tidy, h.has, h.size, unl_cons, if_neg h0]
    simp
theorem Uses.last {D : DataW Unit} {hs : List Int} {k : Int} (h : Uses D (k :: hs)) (h0 : hs.count k = 0) (d : DataW Unit) : Uses ((D.put (.int .i64 k) d).del (.int .i64 k)) hs := by
  have ht := h.tidy.put (key_int k) d
  refine ⟨ht.del _, fun j => ?_, fun j => ?_, ?_⟩
  · by_cases e : j = k
    · subst e
      rw [has_del_same, h0]
      rfl
    · rw [has_del_other (int_ne e), has_put_other (int_ne e), h.has, count_ne e]
  · by_cases e : j = k
    · subst e
      rw [atKey_del_same, h0]
      rfl
    · rw [atKey_del_other (int_ne e), atKey_put_other (int_ne e), h.at_, count_ne e]
  · have h1 := size_del (k := .int .i64 k) ht
    rw [has_put_same h.tidy.isMap (key_int _), size_put h.tidy, h.has, h.size, unl_cons, if_pos h0] at h1
    simp at h1
    omega

end Go.Proofs.Ytnepmlhbheaonaa

namespace Go.Proofs.Ytnepmlhbheaonaa
open Go.RowKit Go.Maps
set_option maxRecDepth 100000

theorem lawI : Keyed Try.prog 3 := int_keyed Try.underlying3
theorem zeroI (w : World) : (zeroValue 3).run Try.prog w = .ok (.int .i64 0) w := by kernel_rfl
def cnts (w : World) (m n : Nat) (D : DataW Unit) : Prop := w.ownsMap Try.prog 3 (plainElem (H := Unit) Try.prog 3) m n D
theorem Trie.frm {S R : Nat → Prop} {w w' : World} {t : Nat} {L : List Pr} {most : Nat} (h : Trie w t S L most) (hf : Frm R w w') (hd : ∀ b, S b → ¬ R b) : Trie w' t S L most := by
  obtain ⟨T, ⟨vA, vF, rfl, h1⟩, h2⟩ := h
  exact ⟨T, ⟨vA, vF, rfl, h1.frm hf hd⟩, h2⟩
theorem cnts_tight {w : World} {m n : Nat} {D : DataW Unit} (h : cnts w m n D) : cnts w m (Maps.size D) D := by
  obtain ⟨es, clock, hb, F, hs, hD⟩ := h
  refine ⟨es, clock, hb, F, ?_, hD⟩
  rw [hD]
  simp [Maps.size, length_sorted]
theorem cnts_frm {S : Nat → Prop} {w w' : World} {m n : Nat} {D : DataW Unit} (h : cnts w m n D) (hf : Frm S w w') (hn : ¬ S m) : cnts w' m n D := by
  have hl := World.ownsMap.lt h
  obtain ⟨es, clock, hb, F, hs, hD⟩ := h
  exact ⟨es, clock, (hf.block m hl hn).trans hb, F, hs, hD⟩
theorem frm_turned {w w' : World} {m : Nat} (h : w.mapTurned w' m) : Frm (fun b => b = m) w w' :=
  (Frm.refl (fun b => b = m) w).grown h.grown (fun k hk => .inl (by cases hk; rfl))
/-- The routes lie at block r: the tree at t, the counts of hs at m. -/
structure RibA (w : World) (r t m : Nat) (S0 : Nat → Prop) (D : DataW Unit) (n h : Int) (L : List Pr) (most : Nat) (hs : List Int) : Prop where
  blk : w.heap[r]? = some (.cells #[.pointer (some ⟨t, 0, none⟩), .map (some m), .int .i64 n, .int .i64 h] 32 (0, 0))
  tree : Trie w t S0 L most
  map : cnts w m (Maps.size D) D
  uses : Uses D hs
  d1 : ¬ S0 r
  d2 : ¬ S0 m
  d3 : r ≠ m
/-- What routes keep to. -/
structure Inv (n h : Int) (L : List Pr) : Prop where
  hop : ∀ x ∈ L, 0 ≤ x.v ∧ x.v ≤ 65535
  n0 : 0 ≤ n ∧ n ≤ 4096
  h0 : 0 ≤ h ∧ h ≤ 65536
  few : (L.length : Int) ≤ n
  like : (unl (hopsL L) : Int) ≤ h
def ribS (r m : Nat) (S0 : Nat → Prop) (b : Nat) : Prop := b = r ∨ b = m ∨ S0 b
def RibS (w : World) (r : Nat) (S : Nat → Prop) (n h : Int) (L : List Pr) (most : Nat) : Prop := ∃ t m S0 D, RibA w r t m S0 D n h L most (hopsL L) ∧ Inv n h L ∧ S = ribS r m S0

theorem RibA.lt {w : World} {r t m : Nat} {S0 : Nat → Prop} {D : DataW Unit} {n h : Int} {L : List Pr} {most : Nat} {hs : List Int} (H : RibA w r t m S0 D n h L most hs) : r < w.heap.size := lt_of_block H.blk
theorem RibA.keep {w w' : World} {r t m : Nat} {S0 : Nat → Prop} {D : DataW Unit} {n h : Int} {L : List Pr} {most : Nat} {hs : List Int} (H : RibA w r t m S0 D n h L most hs) (hb : Below w.heap.size w w') : RibA w' r t m S0 D n h L most hs :=
  { H with blk := (hb.block _ H.lt).trans H.blk, tree := H.tree.keep hb, map := cnts_frm H.map (frm_of_below (S := fun _ => False) hb) id }
theorem RibS.keep {w w' : World} {r : Nat} {S : Nat → Prop} {n h : Int} {L : List Pr} {most : Nat} (H : RibS w r S n h L most) (hb : Below w.heap.size w w') : RibS w' r S n h L most := by
  obtain ⟨t, m, S0, D, H, hI, e⟩ := H
  exact ⟨t, m, S0, D, H.keep hb, hI, e⟩
theorem RibS.lt {w : World} {r : Nat} {S : Nat → Prop} {n h : Int} {L : List Pr} {most : Nat} (H : RibS w r S n h L most) : ∀ b, S b → b < w.heap.size := by
  obtain ⟨t, m, S0, D, H, hI, rfl⟩ := H
  rintro b (rfl | rfl | hb)
  · exact H.lt
  · exact World.ownsMap.lt H.map
  · exact H.tree.lt b hb
theorem RibS.srt {w : World} {r : Nat} {S : Nat → Prop} {n h : Int} {L : List Pr} {most : Nat} (H : RibS w r S n h L most) : Srt L := by
  obtain ⟨t, m, S0, D, H, hI, rfl⟩ := H
  exact H.tree.srt
/-- The cells of the block. -/
theorem RibA.cells {w : World} {r t m : Nat} {S0 : Nat → Prop} {D : DataW Unit} {n h : Int} {L : List Pr} {most : Nat} {hs : List Int} (H : RibA w r t m S0 D n h L most hs) :
    w.cell? ⟨r, 0, none⟩ = some (.pointer (some ⟨t, 0, none⟩)) ∧ w.cell? ⟨r, 1, none⟩ = some (.map (some m)) ∧ w.cell? ⟨r, 2, none⟩ = some (.int .i64 n) ∧ w.cell? ⟨r, 3, none⟩ = some (.int .i64 h) :=
  ⟨by rw [cell_row H.blk]; rfl, by rw [cell_row H.blk]; rfl, by rw [cell_row H.blk]; rfl, by rw [cell_row H.blk]; rfl⟩
theorem wf_hop {k : Int} (h : 0 ≤ k ∧ k ≤ 65535) : (Lit.int .i64 k).wf = true := WalkArith.wf_i64 (by omega)
theorem cnts_look {w : World} {m n : Nat} {D : DataW Unit} {k c : Int} (h : cnts w m n D) (hk : 0 ≤ k ∧ k ≤ 65535) (hat : D.atKey (.int .i64 k) (i64 0) = i64 c) :
    (Instr.lookup 30 (.map (some m)) (.int .i64 k) false).run Try.prog w = .ok (.int .i64 c) w := by
  obtain ⟨c', hrun, hat', hwc⟩ := World.ownsMap.lookup_int h lawI Try.underlying30 Try.underlying3 (zeroI w) (keyOf_int_mk Try.underlying3 (wf_hop hk))
  rw [hat'] at hat
  simp only [DataW.lit.injEq, Lit.int.injEq, true_and] at hat
  rw [hrun, hat]
theorem RibA.look {w : World} {r t m : Nat} {S0 : Nat → Prop} {D : DataW Unit} {n h : Int} {L : List Pr} {most : Nat} {hs : List Int} (H : RibA w r t m S0 D n h L most hs) {k : Int} (hk : 0 ≤ k ∧ k ≤ 65535) :
    (Instr.lookup 30 (.map (some m)) (.int .i64 k) false).run Try.prog w = .ok (.int .i64 (hs.count k : Int)) w := cnts_look H.map hk (H.uses.at_ k)
theorem RibA.len {w : World} {r t m : Nat} {S0 : Nat → Prop} {D : DataW Unit} {n h : Int} {L : List Pr} {most : Nat} {hs : List Int} (H : RibA w r t m S0 D n h L most hs) (ty : TypeId) :
    (Builtin.len_ #[30] ty #[.map (some m)]).run Try.prog w = .ok (.int .i64 (unl hs : Int)) w := by
  rw [World.ownsMap.len H.map Try.underlying30 ty, H.uses.size]

section
variable {w : World} {r t m : Nat} {S0 : Nat → Prop} {D : DataW Unit} {n h : Int} {L : List Pr} {most : Nat} {hs : List Int}
set_option maxHeartbeats 400000 in
theorem routes_any (H : RibA w r t m S0 D n h L most hs) : Calls Try.prog 57 #[.pointer (some ⟨r, 0, none⟩)] w fun e w' => e = .returned (.pointer (some ⟨t, 0, none⟩)) ∧ w = w' := by
  obtain ⟨c0, -, -, -⟩ := H.cells
  clear H
  go_enter Try.func57, Try.ntmps57
  go_wp2
  go_ret
  exact ⟨rfl, rfl⟩
/-- What release leaves. -/
def RelPost (w : World) (r t m : Nat) (S0 : Nat → Prop) (n h : Int) (L : List Pr) (most : Nat) (hs : List Int) (e : Ending) (w' : World) : Prop := e = .returned (.tuple #[]) ∧ ∃ D', RibA w' r t m S0 D' n h L most hs ∧ Frm (fun b => b = m) w w'
theorem RibA.turned {w w' : World} {r t m : Nat} {S0 : Nat → Prop} {D D' : DataW Unit} {n h : Int} {L : List Pr} {most k : Nat} {hs hs' : List Int} (H : RibA w r t m S0 D n h L most hs) (ht : w.mapTurned w' m) (ho : cnts w' m k D') (hu : Uses D' hs') : RibA w' r t m S0 D' n h L most hs' := by
  have hf := frm_turned ht
  exact ⟨(hf.block r H.lt H.d3).trans H.blk, H.tree.frm hf (fun b hb e => H.d2 (e ▸ hb)), cnts_tight ho, hu, H.d1, H.d2, H.d3⟩
theorem wf_small {c : Nat} (h : c ≤ 1000000) : (Lit.int .i64 (c : Int)).wf = true := WalkArith.wf_i64 (by omega)
theorem count_le (hs : List Int) (k : Int) : hs.count k ≤ hs.length := List.count_le_length

set_option maxHeartbeats 1000000 in
theorem release_any {o : Int} (H : RibA w r t m S0 D n h L most (o :: hs)) (ho : 0 ≤ o ∧ o ≤ 65535) (hl : hs.length ≤ 100000) : Calls Try.prog 60 #[.pointer (some ⟨r, 0, none⟩), .int .i64 o] w (RelPost w r t m S0 n h L most hs) := by
  have HH := Lib.hid H
  obtain ⟨-, c1, -, -⟩ := H.cells
  have lk1 := H.look ho
  rw [show (((o :: hs).count o : Nat) : Int) = (hs.count o : Int) + 1 from by simp] at lk1
  have hcl := count_le hs o
  have hsz : Maps.size D ≤ 100001 := by
    rw [H.uses.size]
    have := unl_le (o :: hs)
    simp only [List.length_cons] at this
    omega
  have hown := H.map
  have hwf : (Lit.int .i64 (hs.count o : Int)).wf = true := wf_small (by omega)
  have hkey := keyOf_int_mk Try.underlying3 (wf_hop ho)
  obtain ⟨c, hc⟩ : ∃ c, hs.count o = c := ⟨_, rfl⟩
  rw [hc] at lk1 hwf hcl
  have HO := Lib.hid hown
  have HC := Lib.hid hc
  have HK := Lib.hid hkey
  have HWF := Lib.hid hwf
  have hd3 := H.d3
  have hrz := H.lt
  clear H hown hc hkey hwf
  by_cases hc0 : c = 0
  · subst hc0
    have HC0 := HC
    go_enter Try.func60, Try.ntmps60
    go_wp2_with (first
      | (at_mapUpdate; refine wpList_mapUpdate_in _ rfl _ _ _ 30 rfl 3 3 lawI Try.underlying30 (plainElem (H := Unit) Try.prog 3) m _ D rfl HO.out (by unfold maxLen; omega) _ _ _ rfl rfl HK.out _ [] (plainElem_int Try.underlying3 (a := 0) HWF.out) ?_; intro w1 hown1 hturn1; have d1 := ((frm_turned hturn1).cell (p := ⟨r, 1, none⟩) hrz hd3).trans c1; have lk2 := cnts_look hown1 ho (atKey_put_same HH.out.uses.tidy.isMap (key_int o) _ _); have HO1 := Lib.hid hown1; have HT1 := Lib.hid hturn1; clear hown1 hturn1)
      | (at_delete; refine wpList_delete_own _ rfl _ _ 30 3 rfl 3 lawI Try.underlying30 (plainElem (H := Unit) Try.prog 3) m _ _ rfl HO1.out _ _ rfl HK.out ?_; intro w2 hown2 hturn2; have HO2 := Lib.hid hown2; have HT2 := Lib.hid hturn2; clear hown2 hturn2)
      | fail)
    go_end0
    exact ⟨rfl, _, HH.out.turned (HT1.out.trans HT2.out) HO2.out (HH.out.uses.last HC.out _), frm_turned (HT1.out.trans HT2.out)⟩
  · have t1 : ((c : Int) == 0) = false := by simp; omega
    go_enter Try.func60, Try.ntmps60
    go_wp2_with (first
      | (at_mapUpdate; refine wpList_mapUpdate_in _ rfl _ _ _ 30 rfl 3 3 lawI Try.underlying30 (plainElem (H := Unit) Try.prog 3) m _ D rfl HO.out (by unfold maxLen; omega) _ _ _ rfl rfl HK.out _ [] (plainElem_int Try.underlying3 HWF.out) ?_; intro w1 hown1 hturn1; have d1 := ((frm_turned hturn1).cell (p := ⟨r, 1, none⟩) hrz hd3).trans c1; have lk2 := cnts_look hown1 ho (atKey_put_same HH.out.uses.tidy.isMap (key_int o) _ _); have HO1 := Lib.hid hown1; have HT1 := Lib.hid hturn1; clear hown1 hturn1)
      | fail)
    go_end0
    have hu := HH.out.uses.less (by rw [HC.out]; exact hc0)
    rw [HC.out] at hu
    exact ⟨rfl, _, HH.out.turned HT1.out HO1.out hu, frm_turned HT1.out⟩
/-- Would there be room then? -/
def fitsB (n h : Int) (L : List Pr) (p : Pf) (k : Int) : Bool := decide (((putL p k L).length : Int) ≤ n) && decide ((unl (hopsL (putL p k L)) : Int) ≤ h)

set_option maxHeartbeats 2000000 in
theorem fits_any (H : RibA w r t m S0 D n h L most (hopsL L)) (hI : Inv n h L) (p : Pf) (hp : psane p = true) (k : Int) (hk : 0 ≤ k ∧ k ≤ 65535) : Calls Try.prog 59 #[.pointer (some ⟨r, 0, none⟩), .agg #[.int .u64 (u p.a.hi), .int .u64 (u p.a.lo), .bool p.a.v6, .int .i64 p.n], .int .i64 k] w fun e w' => e = .returned (.bool (fitsB n h L p k)) ∧ Below w.heap.size w w' := by
  have HH := Lib.hid H
  have hs := H.tree.srt
  have hl1 := put_len (v := k) hs hp
  have hl2 := hops_then (v := k) hs hp
  have hg : getQ p L = lk L p := by unfold getQ; rw [if_pos hp]
  have hul := unl_le (hopsL L)
  have hlen : (hopsL L).length = L.length := List.length_map _
  have hn := hI.n0
  have hh := hI.h0
  have hf := hI.few
  have hlk : ∀ o, lk L p = some o → 0 ≤ o ∧ o ≤ 65535 := fun o ho => hI.hop _ (lk_mem ho)
  have HF : Hid (fitsB n h L p k = (decide (((putL p k L).length : Int) ≤ n) && decide ((unl (hopsL (putL p k L)) : Int) ≤ h))) := Lib.hid rfl
  have HG := Lib.hid hg
  have HLK := Lib.hid hlk
  generalize (putL p k L).length = PL at hl1 HF
  generalize unl (hopsL (putL p k L)) = PU at hl2 HF
  obtain ⟨UL, hUL⟩ : ∃ UL, unl (hopsL L) = UL := ⟨_, rfl⟩
  rw [hUL] at hl2 hul
  have HUL := Lib.hid hUL
  obtain ⟨G, hG⟩ : ∃ G, lk L p = G := ⟨_, rfl⟩
  rw [hG] at hl1 hl2 HG HLK
  have H1 := Lib.hid hl1
  have H2 := Lib.hid hl2
  have hub : UL ≤ 4096 := by omega
  have hlb : L.length ≤ 4096 := by omega
  clear H hI hs hl1 hl2 hg hlk hul hlen hf hp hUL hG
  go_enter Try.func59, Try.ntmps59
  go_wp2_with fail
  generalize hW : World.alloc _ _ = W
  have hz : w.heap.size ≤ W.heap.size := by subst hW; go_size
  have hB : Below w.heap.size w W := by subst hW; go_grown
  have pa : W.cell? ⟨w.heap.size, 0, none⟩ = some (.int .u64 (u p.a.hi)) := by subst hW; go_simp <;> rfl
  have pb : W.cell? ⟨w.heap.size, 1, none⟩ = some (.int .u64 (u p.a.lo)) := by subst hW; go_simp <;> rfl
  have pc : W.cell? ⟨w.heap.size, 2, none⟩ = some (.bool p.a.v6) := by subst hW; go_simp <;> rfl
  have pd : W.cell? ⟨w.heap.size, 3, none⟩ = some (.int .i64 p.n) := by subst hW; go_simp <;> rfl
  have pz : w.heap.size < W.heap.size := by subst hW; go_size
  have HW := Lib.hid (HH.out.keep hB)
  obtain ⟨c0, c1, -, -⟩ := HW.out.cells
  have rz := HW.out.lt
  clear hW HH
  have L0 := fun x : Later W.heap.size W => (x.cell rz).trans c0
  have L1 := fun x : Later W.heap.size W => (x.cell rz).trans c1
  have LL : ∀ (x : Later W.heap.size W) (ty : TypeId), (Builtin.len_ #[30] ty #[.map (some m)]).run Try.prog x.at = .ok (.int .i64 (UL : Int)) x.at := fun x ty => by rw [← HUL.out]; exact (HW.out.keep x.below).len ty
  refine region_later W.heap.size (by kernel_rfl) (by kernel_rfl) ?_
  repeat (go_big_quiet_step ((go_at_call 48; exact later_same (trie_len (HW.out.keep (Later.below _)).tree))))
  refine wpQuiet_nil ?_
  intro x
  have hx := x.below
  generalize x.at = V at hx ⊢
  clear x L0 L1 LL c0 c1
  have HV := Lib.hid (HW.out.keep hx)
  have vz := hx.size
  have bV := hB.trans (hx.mono hz)
  replace pa := (hx.cell pz).trans pa
  replace pb := (hx.cell pz).trans pb
  replace pc := (hx.cell pz).trans pc
  replace pd := (hx.cell pz).trans pd
  have pz' : w.heap.size < V.heap.size := by omega
  clear hx pz hB HW rz hz
  obtain ⟨W, rfl⟩ : ∃ W, W = V := ⟨_, rfl⟩
  obtain ⟨c0, c1, -, -⟩ := HV.out.cells
  have rz := HV.out.lt
  have L0 := fun x : Later W.heap.size W => (x.cell rz).trans c0
  have La := fun x : Later W.heap.size W => (x.cell pz').trans pa
  have Lb := fun x : Later W.heap.size W => (x.cell pz').trans pb
  have Lc := fun x : Later W.heap.size W => (x.cell pz').trans pc
  have Ld := fun x : Later W.heap.size W => (x.cell pz').trans pd
  have cg : ∀ x : Later W.heap.size W, Calls Try.prog 41 #[.pointer (some ⟨t, 0, none⟩), .agg #[.int .u64 (u p.a.hi), .int .u64 (u p.a.lo), .bool p.a.v6, .int .i64 p.n]] x.at fun e w' => e = .returned (.tuple #[.int .i64 (G.getD 0), .bool G.isSome]) ∧ Below x.at.heap.size x.at w' := fun x => by
    have := trie_get (HV.out.keep x.below).tree p
    rw [HG.out] at this
    exact this
  have CG := Lib.hid cg
  clear cg
  go_wp2_with fail
  refine region_later W.heap.size (by kernel_rfl) (by kernel_rfl) ?_
  repeat (go_big_quiet_step ((go_at_call 41; exact later_of (Nat.le_refl _) (CG.out _))))
  refine wpQuiet_nil ?_
  intro x
  have hx := x.below
  generalize x.at = V at hx ⊢
  clear x L0 La Lb Lc Ld c0 c1 pa pb pc pd pz' CG
  have HR := Lib.hid (HV.out.keep hx)
  have bR := bV.trans (hx.mono bV.size)
  obtain ⟨c0, c1, c2, c3⟩ := HR.out.cells
  have lk := HR.out.look hk
  obtain ⟨K, hK⟩ : ∃ K, (hopsL L).count k = K := ⟨_, rfl⟩
  rw [hK] at lk H2
  clear hx HV vz bV rz hK HG HUL
  cases G with
  | none =>
    have e1 := H1.out
    have e2 := H2.out
    simp only [Option.isSome_none, Bool.false_eq_true, if_false] at e1 e2
    clear H1 H2 HLK
    go_wp2
    all_goals
      go_ret
      refine ⟨ret_bool ?_, bR⟩
      rw [HF.out, Bool.eq_iff_iff]
      clear lk HR c0 c1 c2 c3 bR HF
      simp only [Bool.and_eq_true, decide_eq_true_eq, beq_iff_eq, beq_eq_false_iff_ne, ne_eq, Bool.false_eq_true, false_iff] at *
      split at e2 <;> omega
  | some o =>
    have ho := HLK.out o rfl
    have lo := HR.out.look ho
    obtain ⟨O, hO⟩ : ∃ O, (hopsL L).count o = O := ⟨_, rfl⟩
    have e1 := H1.out
    have e2 := H2.out
    simp only [Option.isSome_some, if_true] at e1 e2
    rw [hO] at lo e2
    clear H1 H2 HLK hO
    go_wp2
    all_goals
      go_ret
      refine ⟨ret_bool ?_, bR⟩
      rw [HF.out, Bool.eq_iff_iff]
      clear lk lo HR c0 c1 c2 c3 bR HF
      simp only [Bool.and_eq_true, decide_eq_true_eq, beq_iff_eq, bne_iff_ne, beq_eq_false_iff_ne, bne_eq_false_iff_eq, ne_eq, Bool.false_eq_true, false_iff] at *
      split at e2 <;> split at e2 <;> omega
end

end Go.Proofs.Ytnepmlhbheaonaa

namespace Go.Proofs.Ytnepmlhbheaonaa
open Go.RowKit Go.Maps
set_option maxRecDepth 100000

def clampN (n : Int) : Int := min (max n 0) 4096
def clampH (h : Int) : Int := min (max h 0) 65536
def RNewPost (n h : Int) (w : World) (e : Ending) (w' : World) : Prop := ∃ r S, e = .returned (.pointer (some ⟨r, 0, none⟩)) ∧ RibS w' r S (clampN n) (clampH h) [] 2 ∧ Below w.heap.size w w' ∧ ∀ b, S b → w.heap.size ≤ b
theorem rnew_end {w w1 : World} {t : Nat} {S1 : Nat → Prop} {n h a b : Int} (hT : Trie w1 t S1 [] 2) (hb : Below w.heap.size w w1) (hS : ∀ b, S1 b → w.heap.size ≤ b) (ha : a = clampN n) (hh : b = clampH h) :
    RNewPost n h w (.returned (.pointer (some ⟨w1.heap.size + 1, 0, none⟩))) ((w1.alloc (.map #[] 0)).alloc (.cells #[.pointer (some ⟨t, 0, none⟩), .map (some w1.heap.size), .int .i64 a, .int .i64 b] 32)) := by
  subst ha hh
  have h1 := hT.lt
  have e1 : (w1.alloc (.map #[] 0)).heap.size = w1.heap.size + 1 := by simp
  refine ⟨w1.heap.size + 1, ribS (w1.heap.size + 1) w1.heap.size S1, rfl, ⟨t, w1.heap.size, S1, .map [], ⟨hp_new e1.symm, ?_, ?_, uses_nil, ?_, ?_, by omega⟩, ⟨by simp, ?_, ?_, ?_, ?_⟩, rfl⟩, hb.trans (Below.mono (by go_grown) hb.size), ?_⟩
  · exact hT.keep (by go_grown)
  · exact (World.ownsMap_made w1 Try.prog 3 (plainElem (H := Unit) Try.prog 3)).alloc _
  · exact fun e => by have := h1 _ e; omega
  · exact fun e => by have := h1 _ e; omega
  · unfold clampN; omega
  · unfold clampH; omega
  · simp only [List.length_nil]; unfold clampN; omega
  · show ((0 : Nat) : Int) ≤ _
    unfold clampH; omega
  · rintro b (rfl | rfl | hb')
    · have := hb.size; omega
    · exact hb.size
    · exact hS b hb'
set_option maxHeartbeats 1000000 in
theorem rib_new (n h : Int) (w : World) : Calls Try.prog 23 #[.int .i64 n, .int .i64 h] w (RNewPost n h w) := by
  have hmm := @run_makeMap Try.prog
  go_enter Try.func23, Try.ntmps23
  go_wp2_with fail
  refine (trie_new _).mono ?_
  rintro e w1 ⟨t, S1, rfl, hT1, hb1, hS1⟩
  have HT := Lib.hid hT1
  have HS := Lib.hid hS1
  have HB := Lib.hid hb1
  clear hT1 hS1 hb1
  go_wp2
  all_goals
    go_ret
    refine rnew_end HT.out HB.out HS.out ?_ ?_
    all_goals (first | unfold clampN | unfold clampH)
    all_goals omega

def addE (n h : Int) (L : List Pr) (p : Pf) (k : Int) : Int := if psane p = true then (if 0 ≤ k ∧ k ≤ 65535 then (if fitsB n h L p k = true then 0 else 3) else 4) else 1
def addQ (n h : Int) (L : List Pr) (p : Pf) (k : Int) : List Pr := if addE n h L p k = 0 then putL p k L else L
def addM (n h : Int) (L : List Pr) (p : Pf) (k : Int) (most : Nat) : Nat := if addE n h L p k = 0 then putM p k L most else most
/-- What a call that changes routes leaves. -/
def RibPost (r : Nat) (S : Nat → Prop) (w : World) (n h : Int) (L : List Pr) (most : Nat) (v : Value) (e : Ending) (w' : World) : Prop := e = .returned v ∧ ∃ S', RibS w' r S' n h L most ∧ Frm S w w' ∧ Sub S S' w.heap.size
section
variable {w : World} {r : Nat} {S : Nat → Prop} {n h : Int} {L : List Pr} {most : Nat}
theorem rib_same {w' : World} {v : Value} (H : RibS w r S n h L most) (hb : Below w.heap.size w w') : RibPost r S w n h L most v (.returned v) w' := ⟨rfl, S, H.keep hb, frm_of_below hb, Sub.refl _ _⟩
set_option maxHeartbeats 1000000 in
theorem add_no (H : RibS w r S n h L most) (p : Pf) (k : Int) (he : addE n h L p k ≠ 0) : Calls Try.prog 18 #[.pointer (some ⟨r, 0, none⟩), .agg #[.int .u64 (u p.a.hi), .int .u64 (u p.a.lo), .bool p.a.v6, .int .i64 p.n], .int .i64 k] w (RibPost r S w n h L most (.int .i64 (addE n h L p k))) := by
  have HH := Lib.hid H
  clear H
  cases hp : psane p
  · have e1 : addE n h L p k = 1 := by unfold addE; rw [hp]; rfl
    rw [e1]
    have hs' : (!psane p) = true := by simp [hp]
    clear hp e1 he
    go_enter Try.func18, Try.ntmps18
    go_wp2_with fail
    refine (psane_any p _).mono ?_
    rintro e w2 ⟨rfl, hw2⟩
    have zw2 := hw2.size
    have bw2 := below_of (w := w) (by go_grown) hw2
    try simp at zw2
    obtain ⟨p1a, p1b, p1c, p1g, p1d, p1e, p1f, p1h, p1z⟩ := cells4 (b := w.heap.size) hw2 (by go_size) (by go_simp <;> rfl) (by go_simp <;> rfl) (by go_simp <;> rfl) (by go_simp <;> rfl) (by go_simp <;> rfl) (by go_simp <;> rfl) (by go_simp <;> rfl) (by go_simp <;> rfl)
    clear hw2
    go_wp2
    go_ret
    exact rib_same HH.out bw2
  · have hs' : (!psane p) = false := by simp [hp]
    by_cases hk : 0 ≤ k ∧ k ≤ 65535
    · have e0 : fitsB n h L p k = false := by
        cases hf : fitsB n h L p k
        · rfl
        · exfalso
          apply he
          unfold addE
          rw [if_pos hp, if_pos hk, if_pos hf]
      have e1 : addE n h L p k = 3 := by unfold addE; rw [if_pos hp, if_pos hk, e0]; rfl
      rw [e1]
      have t1 : decide (k < 0) = false := by simp; omega
      have t2 : decide (65535 < k) = false := by simp; omega
      have HP := Lib.hid hp
      have HF := Lib.hid e0
      clear e1 he hp e0
      obtain ⟨t, m, S0, D, HA, hI, rfl⟩ := HH.out
      have HAA := Lib.hid HA
      have HI := Lib.hid hI
      clear HA hI
      go_enter Try.func18, Try.ntmps18
      go_wp2_with fail
      refine (psane_any p _).mono ?_
      rintro e w2 ⟨rfl, hw2⟩
      have zw2 := hw2.size
      have bw2 := below_of (w := w) (by go_grown) hw2
      try simp at zw2
      obtain ⟨p2a, p2b, p2c, p2g, p2d, p2e, p2f, p2h, p2z⟩ := cells4 (b := w.heap.size) hw2 (by go_size) (by go_simp <;> rfl) (by go_simp <;> rfl) (by go_simp <;> rfl) (by go_simp <;> rfl) (by go_simp <;> rfl) (by go_simp <;> rfl) (by go_simp <;> rfl) (by go_simp <;> rfl)
      clear hw2
      have cf := fits_any (HAA.out.keep bw2) HI.out p HP.out k hk
      rw [HF.out] at cf
      have CF := Lib.hid cf
      clear cf
      go_wp2_with fail
      refine (CF.out).mono ?_
      rintro e w3 ⟨rfl, hw3⟩
      have zw3 := hw3.size
      have bw3 := below_of (w := w) (by go_grown) hw3
      try simp at zw3
      have hw2b := below_of (w := w2) (by go_grown) hw3
      obtain ⟨p3a, p3b, p3c, p3g, p3d, p3e, p3f, p3h, p3z⟩ := cells4 hw2b p2z p2a p2b p2c p2g p2d p2e p2f p2h
      clear p2a p2b p2c p2g p2d p2e p2f p2h p2z hw3 hw2b
      go_wp2
      go_ret
      exact rib_same HH.out bw3
    · have e1 : addE n h L p k = 4 := by unfold addE; rw [if_pos hp, if_neg hk]
      rw [e1]
      have HK := Lib.hid hk
      clear hp e1 he hk
      by_cases h1 : k < 0
      · have t1 : decide (k < 0) = true := by simp; omega
        go_enter Try.func18, Try.ntmps18
        go_wp2_with fail
        refine (psane_any p _).mono ?_
        rintro e w2 ⟨rfl, hw2⟩
        have zw2 := hw2.size
        have bw2 := below_of (w := w) (by go_grown) hw2
        try simp at zw2
        obtain ⟨p4a, p4b, p4c, p4g, p4d, p4e, p4f, p4h, p4z⟩ := cells4 (b := w.heap.size) hw2 (by go_size) (by go_simp <;> rfl) (by go_simp <;> rfl) (by go_simp <;> rfl) (by go_simp <;> rfl) (by go_simp <;> rfl) (by go_simp <;> rfl) (by go_simp <;> rfl) (by go_simp <;> rfl)
        clear hw2
        go_wp2
        go_ret
        exact rib_same HH.out bw2
      · have t1 : decide (k < 0) = false := by simp; omega
        have t2 : decide (65535 < k) = true := by have := HK.out; simp; omega
        go_enter Try.func18, Try.ntmps18
        go_wp2_with fail
        refine (psane_any p _).mono ?_
        rintro e w2 ⟨rfl, hw2⟩
        have zw2 := hw2.size
        have bw2 := below_of (w := w) (by go_grown) hw2
        try simp at zw2
        obtain ⟨p5a, p5b, p5c, p5g, p5d, p5e, p5f, p5h, p5z⟩ := cells4 (b := w.heap.size) hw2 (by go_size) (by go_simp <;> rfl) (by go_simp <;> rfl) (by go_simp <;> rfl) (by go_simp <;> rfl) (by go_simp <;> rfl) (by go_simp <;> rfl) (by go_simp <;> rfl) (by go_simp <;> rfl)
        clear hw2
        go_wp2
        go_ret
        exact rib_same HH.out bw2
end

end Go.Proofs.Ytnepmlhbheaonaa

namespace Go.Proofs.Ytnepmlhbheaonaa
open Go.RowKit Go.Maps
set_option maxRecDepth 100000

section
variable {w w5 w6 : World} {r t m : Nat} {S0 S' : Nat → Prop} {D : DataW Unit} {n h : Int} {L L' : List Pr} {most M : Nat} {hs : List Int}
theorem ribS_sub (hl : r < w.heap.size) (hm : m < w.heap.size) (g3 : Sub S0 S' w5.heap.size) (hz : w.heap.size ≤ w5.heap.size) : Sub (ribS r m S0) (ribS r m S') w.heap.size := by
  rintro b (rfl | rfl | hb)
  · exact .inl (.inl rfl)
  · exact .inl (.inr (.inl rfl))
  · rcases g3 b hb with e | e
    · exact .inl (.inr (.inr e))
    · exact .inr (by omega)
/-- The tree has changed, and the counts with it. -/
theorem rib_end {v : Value} (H : RibA w5 r t m S0 D n h L most hs) (hl : r < w.heap.size) (hm : m < w.heap.size) (hh : hs.Perm (hopsL L')) (hI : Inv n h L') (hF : Frm (ribS r m S0) w w5)
    (g1 : Trie w6 t S' L' M) (g2 : Frm S0 w5 w6) (g3 : Sub S0 S' w5.heap.size) : RibPost r (ribS r m S0) w n h L' M v (.returned v) w6 := by
  have hz := hF.size
  have k1 : ¬ S' r := fun e => by
    rcases g3 r e with e | e
    · exact H.d1 e
    · omega
  have k2 : ¬ S' m := fun e => by
    rcases g3 m e with e | e
    · exact H.d2 e
    · omega
  refine ⟨rfl, ribS r m S', ⟨t, m, S', D, ⟨(g2.block r (by omega) H.d1).trans H.blk, g1, cnts_frm H.map g2 H.d2, H.uses.perm hh, k1, k2, H.d3⟩, hI, rfl⟩, ?_, ribS_sub hl hm g3 hz⟩
  exact hF.trans g2 (fun b hb => .inl (.inr (.inr hb)))
end
theorem inv_put {n h : Int} {L : List Pr} {p : Pf} {k : Int} (hI : Inv n h L) (hs : Srt L) (hp : psane p = true) (hk : 0 ≤ k ∧ k ≤ 65535) (hf : fitsB n h L p k = true) : Inv n h (putL p k L) := by
  unfold fitsB at hf
  simp only [Bool.and_eq_true, decide_eq_true_eq] at hf
  refine ⟨fun x hx => ?_, hI.n0, hI.h0, hf.1, hf.2⟩
  rcases (mem_put hs hp x).1 hx with rfl | ⟨h1, _⟩
  · exact hk
  · exact hI.hop x h1
theorem nodup_le_int : ∀ {a b : List Int}, a.Nodup → (∀ x ∈ a, x ∈ b) → a.length ≤ b.length := by
  intro a
  induction a with
  | nil => intro b _ _; exact Nat.zero_le _
  | cons x r ih =>
    intro b hd h
    obtain ⟨h1, h2⟩ := List.nodup_cons.1 hd
    have hx := h x List.mem_cons_self
    have := ih (b := b.erase x) h2 (fun y hy => (List.mem_erase_of_ne (show y ≠ x from fun e => h1 (e ▸ hy))).2 (h y (List.mem_cons_of_mem _ hy)))
    have e := List.length_erase_of_mem hx
    have e2 := List.length_pos_of_mem hx
    simp only [List.length_cons]
    omega
theorem unl_sub {a b : List Int} (h : ∀ x, x ∈ a → x ∈ b) : unl a ≤ unl b := by
  have key : ∀ l : List Int, ∃ d : List Int, d.Nodup ∧ (∀ x, x ∈ d ↔ x ∈ l) := by
    intro l
    induction l with
    | nil => exact ⟨[], List.nodup_nil, fun x => Iff.rfl⟩
    | cons y r ih =>
      obtain ⟨d, h1, h2⟩ := ih
      by_cases hy : y ∈ d
      · refine ⟨d, h1, fun x => ?_⟩
        rw [h2 x, List.mem_cons]
        exact ⟨.inr, fun e => e.elim (fun e => e ▸ (h2 y).1 hy) id⟩
      · refine ⟨y :: d, List.nodup_cons.2 ⟨hy, h1⟩, fun x => ?_⟩
        rw [List.mem_cons, List.mem_cons, h2 x]
  obtain ⟨da, a1, a2⟩ := key a
  obtain ⟨db, b1, b2⟩ := key b
  rw [← unl_dist a1 a2, ← unl_dist b1 b2]
  exact nodup_le_int a1 (fun x hx => (b2 x).2 (h x ((a2 x).1 hx)))
theorem inv_del {n h : Int} {L : List Pr} {p : Pf} (hI : Inv n h L) : Inv n h (delQ p L) := by
  unfold delQ
  split
  · refine ⟨fun x hx => hI.hop x ((mem_del x).1 hx).1, hI.n0, hI.h0, ?_, ?_⟩
    · have := List.length_filter_le (fun x : Pr => decide (x.p ≠ p)) L
      have h1 := hI.few
      unfold delL
      omega
    · have h1 := hI.like
      have h2 := unl_sub (a := hopsL (delL p L)) (b := hopsL L) (fun x hx => by
        obtain ⟨y, y1, y2⟩ := mem_hops.1 hx
        exact mem_hops.2 ⟨y, ((mem_del y).1 y1).1, y2⟩)
      omega
  · exact hI

section
variable {w : World} {r : Nat} {S : Nat → Prop} {n h : Int} {L : List Pr} {most : Nat}
set_option maxHeartbeats 2000000 in
theorem add_yes (H : RibS w r S n h L most) (hb : most + 128 ≤ 1000000000) (p : Pf) (k : Int) (he : addE n h L p k = 0) : Calls Try.prog 18 #[.pointer (some ⟨r, 0, none⟩), .agg #[.int .u64 (u p.a.hi), .int .u64 (u p.a.lo), .bool p.a.v6, .int .i64 p.n], .int .i64 k] w (fun e w' => RibPost r S w n h (putL p k L) (putM p k L most) (.int .i64 0) e w' ∧ putM p k L most ≤ most + 128) := by
  have hp : psane p = true := by
    cases hp : psane p
    · unfold addE at he
      rw [hp] at he
      cases he
    · rfl
  have hk : 0 ≤ k ∧ k ≤ 65535 := by
    by_cases hk : 0 ≤ k ∧ k ≤ 65535
    · exact hk
    · unfold addE at he
      rw [if_pos hp, if_neg hk] at he
      cases he
  have hf : fitsB n h L p k = true := by
    cases hf : fitsB n h L p k
    · unfold addE at he
      rw [if_pos hp, if_pos hk, hf] at he
      cases he
    · rfl
  obtain ⟨t, m, S0, D, HA, hI, rfl⟩ := H
  have hs := HA.tree.srt
  have hgl : getQ p L = lk L p := by unfold getQ; rw [if_pos hp]
  obtain ⟨G, hG⟩ : ∃ G, lk L p = G := ⟨_, rfl⟩
  rw [hG] at hgl
  have hhp := hops_put (v := k) hs hp
  have hlen : (hopsL L).length ≤ 4096 := by
    unfold hopsL
    rw [List.length_map]
    have := hI.few
    have := hI.n0
    omega
  have hII := inv_put hI hs hp hk hf
  have hs' : (!psane p) = false := by simp [hp]
  have t1 : decide (k < 0) = false := by simp; omega
  have t2 : decide (65535 < k) = false := by simp; omega
  have hrl := HA.lt
  have hml := World.ownsMap.lt HA.map
  have hpq : putQ p k L = putL p k L := by unfold putQ; rw [if_pos hp]
  have hpe : putE p = 0 := by unfold putE; rw [if_pos hp]
  have HAA := Lib.hid HA
  have HI := Lib.hid hI
  have HII := Lib.hid hII
  have HP := Lib.hid hp
  have HF := Lib.hid hf
  have HG := Lib.hid hgl
  have HGL := Lib.hid hG
  have HS := Lib.hid hs
  have HHP := Lib.hid hhp
  have HLN := Lib.hid hlen
  have HPQ := Lib.hid hpq
  have HPE := Lib.hid hpe
  clear HA hI hII hp hf hgl hG hs hhp hlen he hpq hpe
  go_enter Try.func18, Try.ntmps18
  go_wp2_with fail
  refine (psane_any p _).mono ?_
  rintro e w2 ⟨rfl, hw2⟩
  have zw2 := hw2.size
  have bw2 := below_of (w := w) (by go_grown) hw2
  try simp at zw2
  obtain ⟨p1a, p1b, p1c, p1g, p1d, p1e, p1f, p1h, p1z⟩ := cells4 (b := w.heap.size) hw2 (by go_size) (by go_simp <;> rfl) (by go_simp <;> rfl) (by go_simp <;> rfl) (by go_simp <;> rfl) (by go_simp <;> rfl) (by go_simp <;> rfl) (by go_simp <;> rfl) (by go_simp <;> rfl)
  clear hw2
  have cf := fits_any (HAA.out.keep bw2) HI.out p HP.out k hk
  rw [HF.out] at cf
  have CF := Lib.hid cf
  clear cf
  go_wp2_with fail
  refine (CF.out).mono ?_
  rintro e w3 ⟨rfl, hw3⟩
  have zw3 := hw3.size
  have bw3 := below_of (w := w) (by go_grown) hw3
  try simp at zw3
  have hw2b := below_of (w := w2) (by go_grown) hw3
  obtain ⟨p2a, p2b, p2c, p2g, p2d, p2e, p2f, p2h, p2z⟩ := cells4 hw2b p1z p1a p1b p1c p1g p1d p1e p1f p1h
  clear p1a p1b p1c p1g p1d p1e p1f p1h p1z hw3 hw2b
  have HPV : Hid (PBox w3 w.heap.size p) := Lib.hid ⟨p2a, p2b, p2c, p2g, p2d, p2e, p2f, p2h, p2z⟩
  have HV := Lib.hid (HAA.out.keep bw3)
  have bV := bw3
  clear p2a p2b p2c p2g p2d p2e p2f p2h p2z
  clear bw2 bw3 zw2 zw3 CF HAA
  have hld : (hopsL (delL p L)).length ≤ 4096 := by
    have h1 := HLN.out
    have h2 := List.length_filter_le (fun x : Pr => decide (x.p ≠ p)) L
    unfold hopsL at h1 ⊢
    rw [List.length_map] at h1 ⊢
    unfold delL
    omega
  have HLD := Lib.hid hld
  clear hld
  obtain ⟨W, rfl⟩ : ∃ W, W = w3 := ⟨_, rfl⟩
  have rz := HV.out.lt
  obtain ⟨c0, -, -, -⟩ := HV.out.cells
  obtain ⟨pa, pb, pc, pd, -, -, -, -, pz⟩ := id HPV.out
  have L0 := fun x : Later W.heap.size W => (x.cell rz).trans c0
  have La := fun x : Later W.heap.size W => (x.cell pz).trans pa
  have Lb := fun x : Later W.heap.size W => (x.cell pz).trans pb
  have Lc := fun x : Later W.heap.size W => (x.cell pz).trans pc
  have Ld := fun x : Later W.heap.size W => (x.cell pz).trans pd
  have cg : ∀ x : Later W.heap.size W, Calls Try.prog 41 #[.pointer (some ⟨t, 0, none⟩), .agg #[.int .u64 (u p.a.hi), .int .u64 (u p.a.lo), .bool p.a.v6, .int .i64 p.n]] x.at fun e w' => e = .returned (.tuple #[.int .i64 (G.getD 0), .bool G.isSome]) ∧ Below x.at.heap.size x.at w' := fun x => by
    have := trie_get (HV.out.keep x.below).tree p
    rw [HG.out] at this
    exact this
  have CG := Lib.hid cg
  clear cg
  go_wp2_with fail
  refine region_later W.heap.size (by kernel_rfl) (by kernel_rfl) ?_
  repeat (go_big_quiet_step (first | (go_at_call 41; exact later_of (Nat.le_refl _) (CG.out _)) | (go_at_call 57; exact later_same (routes_any (HV.out.keep (Later.below _))))))
  refine wpQuiet_nil ?_
  intro x
  have hx := x.below
  generalize x.at = V at hx ⊢
  clear x L0 La Lb Lc Ld c0 pa pb pc pd CG
  have HR := Lib.hid (HV.out.keep hx)
  have HPR := Lib.hid (HPV.out.keep hx)
  have bR := bV.trans (hx.mono bV.size)
  clear hx HV HPV rz pz
  cases G with
  | none =>
    have hRn : RibA V r t m S0 D n h L most (hopsL (delL p L)) := by rw [del_none HGL.out]; exact HR.out
    have HRN := Lib.hid hRn
    have hFn : Frm (ribS r m S0) w V := frm_of_below bR
    clear hRn HR
    go_upto_region 10 with fail
    have HR6 : Hid (RibA V r t m S0 D n h L most (hopsL (delL p L))) := HRN
    obtain ⟨c0, c1, -, -⟩ := HR6.out.cells
    have lk1 := HR6.out.look hk
    have hown := HR6.out.map
    have hcl := count_le (hopsL (delL p L)) k
    have hle : (hopsL (delL p L)).length ≤ 4096 := HLD.out
    have hsz : Maps.size D ≤ 4096 := by
      rw [HR6.out.uses.size]
      have := unl_le (hopsL (delL p L))
      omega
    obtain ⟨c, hc⟩ : ∃ c, (hopsL (delL p L)).count k = c := ⟨_, rfl⟩
    have hus := HR6.out.uses.use k
    rw [hc] at lk1 hcl hus
    have hc9 : (c : Int) + 1 ≤ 5000 := by omega
    have hwf : (Lit.int .i64 ((c : Int) + 1)).wf = true := WalkArith.wf_i64 (by omega)
    have HUS := Lib.hid hus
    have HWF := Lib.hid hwf
    have HO := Lib.hid hown
    have HK := Lib.hid (keyOf_int_mk Try.underlying3 (wf_hop hk))
    clear hus hwf hown hc hcl hle
    go_wp2_with (first
      | (at_mapUpdate; refine wpList_mapUpdate_in _ rfl _ _ _ 30 rfl 3 3 lawI Try.underlying30 (plainElem (H := Unit) Try.prog 3) m _ D rfl HO.out (by unfold maxLen; omega) _ _ _ rfl rfl HK.out _ [] (plainElem_int Try.underlying3 HWF.out) ?_; intro w6 hown1 hturn1; have HO1 := Lib.hid hown1; have HT1 := Lib.hid hturn1; clear hown1 hturn1)
      | fail)
    have HR7 := Lib.hid (HR6.out.turned HT1.out HO1.out HUS.out)
    have HP7 := Lib.hid ((HPR).out.frm (frm_turned HT1.out) (fun e => by omega))
    have hF7 : Frm (ribS r m S0) w w6 := (hFn).trans (frm_turned HT1.out) (fun b hb => .inl (.inr (.inl hb)))
    clear HO1 HT1 HUS HO HR6 c0 c1 lk1
    obtain ⟨W, rfl⟩ : ∃ W, W = w6 := ⟨_, rfl⟩
    have rz := HR7.out.lt
    obtain ⟨c0, -, -, -⟩ := HR7.out.cells
    obtain ⟨pa, pb, pc, pd, -, -, -, -, pz⟩ := id HP7.out
    have L0 := fun x : Later W.heap.size W => (x.cell rz).trans c0
    have La := fun x : Later W.heap.size W => (x.cell pz).trans pa
    have Lb := fun x : Later W.heap.size W => (x.cell pz).trans pb
    have Lc := fun x : Later W.heap.size W => (x.cell pz).trans pc
    have Ld := fun x : Later W.heap.size W => (x.cell pz).trans pd
    go_frame
    refine region_tail 6 W.heap.size (by kernel_rfl) (by kernel_rfl) ?_
    simp only [List.take_succ_cons, List.take_zero, List.drop_succ_cons, List.drop_zero]
    repeat (go_big_quiet_step (fail))
    refine wpQuiet_nil ?_
    intro x
    have hx := x.below
    generalize x.at = V8 at hx ⊢
    clear x L0 La Lb Lc Ld c0 pa pb pc pd
    have HR8 := Lib.hid (HR7.out.keep hx)
    have hF8 := hF7.then hx
    clear hx HR7 HP7 rz pz
    go_wp2_with fail
    refine (trie_put HR8.out.tree hb p k).mono ?_
    rw [HPQ.out, HPE.out]
    rintro e w9 ⟨⟨rfl, S9, g1, g2, g3⟩, g4⟩
    have G1 := Lib.hid g1
    have G2 := Lib.hid g2
    have G3 := Lib.hid g3
    clear g1 g2 g3
    go_wp2
    go_ret
    exact ⟨rib_end HR8.out hrl hml HHP.out.symm HII.out hF8 G1.out G2.out G3.out, g4⟩
  | some o =>
    have ho : 0 ≤ o ∧ o ≤ 65535 := HI.out.hop _ (lk_mem HGL.out)
    have hpm := hops_del HS.out HGL.out
    have hRo : RibA V r t m S0 D n h L most (o :: hopsL (delL p L)) := { HR.out with uses := HR.out.uses.perm hpm }
    have cr := release_any hRo ho (by have := HLD.out; omega)
    have CR := Lib.hid cr
    clear hRo cr hpm
    go_wp2_with fail
    refine CR.out.mono ?_
    rintro e w5 ⟨rfl, D', hR5, hf5⟩
    have HPB := Lib.hid (HPR.out.frm hf5 (fun e => by omega))
    have hF5 : Frm (ribS r m S0) w w5 := (frm_of_below bR).trans hf5 (fun b hb => .inl (.inr (.inl hb)))
    have HR5 := Lib.hid hR5
    clear hR5 hf5 CR HPR HR
    have HR6 : Hid (RibA w5 r t m S0 D' n h L most (hopsL (delL p L))) := HR5
    obtain ⟨c0, c1, -, -⟩ := HR6.out.cells
    have lk1 := HR6.out.look hk
    have hown := HR6.out.map
    have hcl := count_le (hopsL (delL p L)) k
    have hle : (hopsL (delL p L)).length ≤ 4096 := HLD.out
    have hsz : Maps.size D' ≤ 4096 := by
      rw [HR6.out.uses.size]
      have := unl_le (hopsL (delL p L))
      omega
    obtain ⟨c, hc⟩ : ∃ c, (hopsL (delL p L)).count k = c := ⟨_, rfl⟩
    have hus := HR6.out.uses.use k
    rw [hc] at lk1 hcl hus
    have hc9 : (c : Int) + 1 ≤ 5000 := by omega
    have hwf : (Lit.int .i64 ((c : Int) + 1)).wf = true := WalkArith.wf_i64 (by omega)
    have HUS := Lib.hid hus
    have HWF := Lib.hid hwf
    have HO := Lib.hid hown
    have HK := Lib.hid (keyOf_int_mk Try.underlying3 (wf_hop hk))
    clear hus hwf hown hc hcl hle
    go_wp2_with (first
      | (at_mapUpdate; refine wpList_mapUpdate_in _ rfl _ _ _ 30 rfl 3 3 lawI Try.underlying30 (plainElem (H := Unit) Try.prog 3) m _ D' rfl HO.out (by unfold maxLen; omega) _ _ _ rfl rfl HK.out _ [] (plainElem_int Try.underlying3 HWF.out) ?_; intro w6 hown1 hturn1; have HO1 := Lib.hid hown1; have HT1 := Lib.hid hturn1; clear hown1 hturn1)
      | fail)
    have HR7 := Lib.hid (HR6.out.turned HT1.out HO1.out HUS.out)
    have HP7 := Lib.hid ((HPB).out.frm (frm_turned HT1.out) (fun e => by omega))
    have hF7 : Frm (ribS r m S0) w w6 := (hF5).trans (frm_turned HT1.out) (fun b hb => .inl (.inr (.inl hb)))
    clear HO1 HT1 HUS HO HR6 c0 c1 lk1
    obtain ⟨W, rfl⟩ : ∃ W, W = w6 := ⟨_, rfl⟩
    have rz := HR7.out.lt
    obtain ⟨c0, -, -, -⟩ := HR7.out.cells
    obtain ⟨pa, pb, pc, pd, -, -, -, -, pz⟩ := id HP7.out
    have L0 := fun x : Later W.heap.size W => (x.cell rz).trans c0
    have La := fun x : Later W.heap.size W => (x.cell pz).trans pa
    have Lb := fun x : Later W.heap.size W => (x.cell pz).trans pb
    have Lc := fun x : Later W.heap.size W => (x.cell pz).trans pc
    have Ld := fun x : Later W.heap.size W => (x.cell pz).trans pd
    go_frame
    refine region_tail 6 W.heap.size (by kernel_rfl) (by kernel_rfl) ?_
    simp only [List.take_succ_cons, List.take_zero, List.drop_succ_cons, List.drop_zero]
    repeat (go_big_quiet_step (fail))
    refine wpQuiet_nil ?_
    intro x
    have hx := x.below
    generalize x.at = V8 at hx ⊢
    clear x L0 La Lb Lc Ld c0 pa pb pc pd
    have HR8 := Lib.hid (HR7.out.keep hx)
    have hF8 := hF7.then hx
    clear hx HR7 HP7 rz pz
    go_wp2_with fail
    refine (trie_put HR8.out.tree hb p k).mono ?_
    rw [HPQ.out, HPE.out]
    rintro e w9 ⟨⟨rfl, S9, g1, g2, g3⟩, g4⟩
    have G1 := Lib.hid g1
    have G2 := Lib.hid g2
    have G3 := Lib.hid g3
    clear g1 g2 g3
    go_wp2
    go_ret
    exact ⟨rib_end HR8.out hrl hml HHP.out.symm HII.out hF8 G1.out G2.out G3.out, g4⟩
end

end Go.Proofs.Ytnepmlhbheaonaa

namespace Go.Proofs.Ytnepmlhbheaonaa
open Go.RowKit Go.Maps
set_option maxRecDepth 100000

section
variable {w : World} {r : Nat} {S : Nat → Prop} {n h : Int} {L : List Pr} {most : Nat}
theorem rib_add (H : RibS w r S n h L most) (hb : most + 128 ≤ 1000000000) (p : Pf) (k : Int) : Calls Try.prog 18 #[.pointer (some ⟨r, 0, none⟩), .agg #[.int .u64 (u p.a.hi), .int .u64 (u p.a.lo), .bool p.a.v6, .int .i64 p.n], .int .i64 k] w (fun e w' => RibPost r S w n h (addQ n h L p k) (addM n h L p k most) (.int .i64 (addE n h L p k)) e w' ∧ addM n h L p k most ≤ most + 128) := by
  by_cases he : addE n h L p k = 0
  · have := add_yes H hb p k he
    unfold addQ addM
    rw [if_pos he, if_pos he, he]
    exact this
  · have := add_no H p k he
    unfold addQ addM
    rw [if_neg he, if_neg he]
    exact this.mono fun e w' hh => ⟨hh, Nat.le_add_right _ _⟩

set_option maxHeartbeats 2000000 in
theorem rib_withdraw (H : RibS w r S n h L most) (hb : most + 128 ≤ 1000000000) (p : Pf) : Calls Try.prog 19 #[.pointer (some ⟨r, 0, none⟩), .agg #[.int .u64 (u p.a.hi), .int .u64 (u p.a.lo), .bool p.a.v6, .int .i64 p.n]] w (RibPost r S w n h (delQ p L) most (.int .i64 (delE p L))) := by
  obtain ⟨t, m, S0, D, HA, hI, rfl⟩ := H
  have hs := HA.tree.srt
  obtain ⟨G, hG⟩ : ∃ G, getQ p L = G := ⟨_, rfl⟩
  have hrl := HA.lt
  have hml := World.ownsMap.lt HA.map
  have hlen : (hopsL L).length ≤ 4096 := by
    unfold hopsL
    rw [List.length_map]
    have := hI.few
    have := hI.n0
    omega
  have HAA := Lib.hid HA
  have HI := Lib.hid hI
  have HG := Lib.hid hG
  have HS := Lib.hid hs
  have HLN := Lib.hid hlen
  clear HA hI hG hs hlen
  go_enter Try.func19, Try.ntmps19
  go_wp2_with fail
  generalize hW : World.alloc _ _ = W
  have hz : w.heap.size ≤ W.heap.size := by subst hW; go_size
  have hB : Below w.heap.size w W := by subst hW; go_grown
  have hpb : PBox W w.heap.size p := by subst hW; exact ⟨by go_simp <;> rfl, by go_simp <;> rfl, by go_simp <;> rfl, by go_simp <;> rfl, by go_simp <;> rfl, by go_simp <;> rfl, by go_simp <;> rfl, by go_simp <;> rfl, by go_size⟩
  have HPV := Lib.hid hpb
  have HV := Lib.hid (HAA.out.keep hB)
  have bV := hB
  clear hW hB hz hpb HAA
  have rz := HV.out.lt
  obtain ⟨c0, -, -, -⟩ := HV.out.cells
  obtain ⟨pa, pb, pc, pd, -, -, -, -, pz⟩ := id HPV.out
  have L0 := fun x : Later W.heap.size W => (x.cell rz).trans c0
  have La := fun x : Later W.heap.size W => (x.cell pz).trans pa
  have Lb := fun x : Later W.heap.size W => (x.cell pz).trans pb
  have Lc := fun x : Later W.heap.size W => (x.cell pz).trans pc
  have Ld := fun x : Later W.heap.size W => (x.cell pz).trans pd
  have cg : ∀ x : Later W.heap.size W, Calls Try.prog 41 #[.pointer (some ⟨t, 0, none⟩), .agg #[.int .u64 (u p.a.hi), .int .u64 (u p.a.lo), .bool p.a.v6, .int .i64 p.n]] x.at fun e w' => e = .returned (.tuple #[.int .i64 (G.getD 0), .bool G.isSome]) ∧ Below x.at.heap.size x.at w' := fun x => by
    have := trie_get (HV.out.keep x.below).tree p
    rw [HG.out] at this
    exact this
  have CG := Lib.hid cg
  clear cg
  go_wp2_with fail
  refine region_later W.heap.size (by kernel_rfl) (by kernel_rfl) ?_
  repeat (go_big_quiet_step (first | (go_at_call 41; exact later_of (Nat.le_refl _) (CG.out _)) | (go_at_call 57; exact later_same (routes_any (HV.out.keep (Later.below _))))))
  refine wpQuiet_nil ?_
  intro x
  have hx := x.below
  generalize x.at = V at hx ⊢
  clear x L0 La Lb Lc Ld c0 pa pb pc pd CG
  have HR := Lib.hid (HV.out.keep hx)
  have HPR := Lib.hid (HPV.out.keep hx)
  have bR := bV.trans (hx.mono bV.size)
  clear hx HV HPV rz pz
  cases G with
  | none =>
    have hd : delQ p L = L := by
      have h1 := HG.out
      unfold getQ at h1
      unfold delQ
      by_cases hp : psane p = true
      · rw [if_pos hp] at h1 ⊢
        exact del_none h1
      · rw [if_neg hp]
    have hRn : RibA V r t m S0 D n h L most (hopsL (delQ p L)) := by rw [hd]; exact HR.out
    have HRN := Lib.hid hRn
    have hFn : Frm (ribS r m S0) w V := frm_of_below bR
    clear hRn HR hd
    go_upto_region 4 with fail
    obtain ⟨W, rfl⟩ : ∃ W, W = V := ⟨_, rfl⟩
    obtain ⟨pa, pb, pc, pd, -, -, -, -, pz⟩ := id (HPR).out
    have La := fun x : Later W.heap.size W => (x.cell pz).trans pa
    have Lb := fun x : Later W.heap.size W => (x.cell pz).trans pb
    have Lc := fun x : Later W.heap.size W => (x.cell pz).trans pc
    have Ld := fun x : Later W.heap.size W => (x.cell pz).trans pd
    try go_frame
    refine region_tail 3 W.heap.size (by kernel_rfl) (by kernel_rfl) ?_
    simp only [List.take_succ_cons, List.take_zero, List.drop_succ_cons, List.drop_zero]
    repeat (go_big_quiet_step ((go_at_call 57; exact later_same (routes_any ((HRN).out.keep (Later.below _))))))
    refine wpQuiet_nil ?_
    intro x
    have hx := x.below
    generalize x.at = V8 at hx ⊢
    clear x La Lb Lc Ld pa pb pc pd
    have HR8 := Lib.hid ((HRN).out.keep hx)
    have hF8 := (hFn).then hx
    clear hx pz
    go_wp2_with fail
    refine (trie_del HR8.out.tree hb p).mono ?_
    rintro e w9 ⟨rfl, S9, g1, g2, g3⟩
    have G1 := Lib.hid g1
    have G2 := Lib.hid g2
    have G3 := Lib.hid g3
    clear g1 g2 g3
    go_wp2
    go_ret
    exact rib_end HR8.out hrl hml (List.Perm.refl _) (inv_del HI.out) hF8 G1.out G2.out G3.out
  | some o =>
    have hp : psane p = true := by
      cases hp : psane p
      · have h1 := HG.out
        unfold getQ at h1
        rw [hp] at h1
        cases h1
      · rfl
    have hl : lk L p = some o := by
      have h1 := HG.out
      unfold getQ at h1
      rw [if_pos hp] at h1
      exact h1
    have hd : delQ p L = delL p L := by unfold delQ; rw [if_pos hp]
    have ho : 0 ≤ o ∧ o ≤ 65535 := HI.out.hop _ (lk_mem hl)
    have hpm := hops_del HS.out hl
    rw [← hd] at hpm
    have hRo : RibA V r t m S0 D n h L most (o :: hopsL (delQ p L)) := { HR.out with uses := HR.out.uses.perm hpm }
    have cr := release_any hRo ho (by have h1 := hpm.length_eq; have h2 := HLN.out; simp only [List.length_cons] at h1; omega)
    have CR := Lib.hid cr
    clear hRo cr hpm hd hl hp
    go_wp2_with fail
    refine CR.out.mono ?_
    rintro e w5 ⟨rfl, D', hR5, hf5⟩
    have HPB := Lib.hid (HPR.out.frm hf5 (fun e => by omega))
    have hF5 : Frm (ribS r m S0) w w5 := (frm_of_below bR).trans hf5 (fun b hb => .inl (.inr (.inl hb)))
    have HR5 := Lib.hid hR5
    clear hR5 hf5 CR HPR HR
    go_upto_region 4 with fail
    obtain ⟨W, rfl⟩ : ∃ W, W = w5 := ⟨_, rfl⟩
    obtain ⟨pa, pb, pc, pd, -, -, -, -, pz⟩ := id (HPB).out
    have La := fun x : Later W.heap.size W => (x.cell pz).trans pa
    have Lb := fun x : Later W.heap.size W => (x.cell pz).trans pb
    have Lc := fun x : Later W.heap.size W => (x.cell pz).trans pc
    have Ld := fun x : Later W.heap.size W => (x.cell pz).trans pd
    try go_frame
    refine region_tail 3 W.heap.size (by kernel_rfl) (by kernel_rfl) ?_
    simp only [List.take_succ_cons, List.take_zero, List.drop_succ_cons, List.drop_zero]
    repeat (go_big_quiet_step ((go_at_call 57; exact later_same (routes_any ((HR5).out.keep (Later.below _))))))
    refine wpQuiet_nil ?_
    intro x
    have hx := x.below
    generalize x.at = V8 at hx ⊢
    clear x La Lb Lc Ld pa pb pc pd
    have HR8 := Lib.hid ((HR5).out.keep hx)
    have hF8 := (hF5).then hx
    clear hx pz
    go_wp2_with fail
    refine (trie_del HR8.out.tree hb p).mono ?_
    rintro e w9 ⟨rfl, S9, g1, g2, g3⟩
    have G1 := Lib.hid g1
    have G2 := Lib.hid g2
    have G3 := Lib.hid g3
    clear g1 g2 g3
    go_wp2
    go_ret
    exact rib_end HR8.out hrl hml (List.Perm.refl _) (inv_del HI.out) hF8 G1.out G2.out G3.out
end

end Go.Proofs.Ytnepmlhbheaonaa

namespace Go.Proofs.Ytnepmlhbheaonaa
open Go.RowKit Go.Maps
set_option maxRecDepth 100000

/-- A pair lies in a block. -/
def QBox (w : World) (b : Nat) (x : Pr) : Prop := w.cell? ⟨b, 0, none⟩ = some (.int .u64 (u x.p.a.hi)) ∧ w.cell? ⟨b, 1, none⟩ = some (.int .u64 (u x.p.a.lo)) ∧ w.cell? ⟨b, 2, none⟩ = some (.bool x.p.a.v6) ∧ w.cell? ⟨b, 3, none⟩ = some (.int .i64 x.p.n) ∧ w.cell? ⟨b, 4, none⟩ = some (.int .i64 x.v) ∧ b < w.heap.size
theorem keep3L {W w' : World} {b : Nat} {c0 c1 c2 : Value} (h : Below W.heap.size W w') (hlt : b < W.heap.size) (h0 : W.cell? ⟨b, 0, none⟩ = some c0) (h1 : W.cell? ⟨b, 1, none⟩ = some c1) (h2 : W.cell? ⟨b, 2, none⟩ = some c2) :
    w'.cell? ⟨b, 0, none⟩ = some c0 ∧ w'.cell? ⟨b, 1, none⟩ = some c1 ∧ w'.cell? ⟨b, 2, none⟩ = some c2 ∧ Below W.heap.size W w' := ⟨(h.cell (p := ⟨b, 0, none⟩) hlt).trans h0, (h.cell (p := ⟨b, 1, none⟩) hlt).trans h1, (h.cell (p := ⟨b, 2, none⟩) hlt).trans h2, h⟩

section
variable {w : World} {r : Nat} {S : Nat → Prop} {n h : Int} {L : List Pr} {most : Nat}
set_option maxHeartbeats 1000000 in
theorem rib_inside (H : RibS w r S n h L most) (p : Pf) : Calls Try.prog 20 #[.pointer (some ⟨r, 0, none⟩), .agg #[.int .u64 (u p.a.hi), .int .u64 (u p.a.lo), .bool p.a.v6, .int .i64 p.n]] w fun e w' => e = .returned (.bool (L.any fun x => pins p x.p)) ∧ Below w.heap.size w w' := by
  obtain ⟨t, m, S0, D, HA, hI, rfl⟩ := H
  have HAA := Lib.hid HA
  clear HA hI
  obtain ⟨I, hIn⟩ : ∃ I, (L.any fun x => pins p x.p) = I := ⟨_, rfl⟩
  rw [hIn]
  have HIN := Lib.hid hIn
  clear hIn
  go_enter Try.func20, Try.ntmps20
  go_wp2_with fail
  generalize hW : World.alloc _ _ = W
  have hz : w.heap.size ≤ W.heap.size := by subst hW; go_size
  have hB : Below w.heap.size w W := by subst hW; go_grown
  have hpb : PBox W w.heap.size p := by subst hW; exact ⟨by go_simp <;> rfl, by go_simp <;> rfl, by go_simp <;> rfl, by go_simp <;> rfl, by go_simp <;> rfl, by go_simp <;> rfl, by go_simp <;> rfl, by go_simp <;> rfl, by go_size⟩
  obtain ⟨pa, pb, pc, pd, -, -, -, -, pz⟩ := hpb
  have HV := Lib.hid (HAA.out.keep hB)
  clear hW
  have La := fun x : Later W.heap.size W => (x.cell pz).trans pa
  have Lb := fun x : Later W.heap.size W => (x.cell pz).trans pb
  have Lc := fun x : Later W.heap.size W => (x.cell pz).trans pc
  have Ld := fun x : Later W.heap.size W => (x.cell pz).trans pd
  have cg : ∀ x : Later W.heap.size W, Calls Try.prog 47 #[.pointer (some ⟨t, 0, none⟩), .agg #[.int .u64 (u p.a.hi), .int .u64 (u p.a.lo), .bool p.a.v6, .int .i64 p.n]] x.at fun e w' => e = .returned (.bool I) ∧ Below x.at.heap.size x.at w' := fun x => by
    have := trie_inside (HV.out.keep x.below).tree p
    rw [HIN.out] at this
    exact this
  have CG := Lib.hid cg
  clear cg
  refine region_later W.heap.size (by kernel_rfl) (by kernel_rfl) ?_
  repeat (go_big_quiet_step (first | (go_at_call 47; exact later_of (Nat.le_refl _) (CG.out _)) | (go_at_call 57; exact later_same (routes_any (HV.out.keep (Later.below _))))))
  refine wpQuiet_nil ?_
  intro x
  have hx := x.below
  generalize x.at = V at hx ⊢
  clear x La Lb Lc Ld pa pb pc pd CG
  go_wp2
  go_ret
  exact ⟨rfl, hB.trans (hx.mono hz)⟩

set_option maxHeartbeats 1000000 in
theorem rib_size (H : RibS w r S n h L most) : Calls Try.prog 17 #[.pointer (some ⟨r, 0, none⟩)] w fun e w' => e = .returned (.tuple #[.int .i64 (L.length : Int), .int .i64 (nodesL L), .int .i64 (most : Int)]) ∧ Below w.heap.size w w' := by
  obtain ⟨t, m, S0, D, HA, hI, rfl⟩ := H
  have HAA := Lib.hid HA
  clear HA hI
  go_enter Try.func17, Try.ntmps17
  go_wp2_with fail
  refine (routes_any HAA.out).mono ?_
  rintro e w1 ⟨rfl, rfl⟩
  go_wp2_with fail
  refine (trie_len HAA.out.tree).mono ?_
  rintro e w2 ⟨rfl, rfl⟩
  go_wp2_with fail
  refine (trie_nodes HAA.out.tree).mono ?_
  rintro e w3 ⟨rfl, hw3⟩
  have HT := Lib.hid (HAA.out.tree.keep hw3)
  go_wp2_with fail
  refine (trie_slots HT.out).mono ?_
  rintro e w4 ⟨rfl, rfl⟩
  go_wp2
  exact bodyPost_ret (v := .tuple #[.int .i64 (L.length : Int), .int .i64 (nodesL L), .int .i64 (most : Int)]) (by simp [*, results, Try.results17, go_sem] <;> rfl) rfl ⟨rfl, hw3⟩

set_option maxHeartbeats 1000000 in
theorem route_any (x : Pr) (w : World) : Calls Try.prog 58 #[.agg #[.int .u64 (u x.p.a.hi), .int .u64 (u x.p.a.lo), .bool x.p.a.v6, .int .i64 x.p.n, .int .i64 x.v]] w fun e w' => e = .returned (.agg #[.int .u64 (u x.p.a.hi), .int .u64 (u x.p.a.lo), .bool x.p.a.v6, .int .i64 x.p.n, .int .i64 x.v]) ∧ Below w.heap.size w w' := by
  go_enter Try.func58, Try.ntmps58
  go_wp2
  refine bodyPost_ret (v := .agg #[.int .u64 (u x.p.a.hi), .int .u64 (u x.p.a.lo), .bool x.p.a.v6, .int .i64 x.p.n, .int .i64 x.v]) (by simp [*, results, Try.results58, go_sem] <;> rfl) rfl ⟨rfl, ?_⟩
  go_grown
def qv (x : Pr) : Value := .agg #[.int .u64 (u x.p.a.hi), .int .u64 (u x.p.a.lo), .bool x.p.a.v6, .int .i64 x.p.n, .int .i64 x.v]
def OptPost (w : World) (o : Option Pr) (e : Ending) (w' : World) : Prop := e = .returned (.tuple #[.agg #[.int .u64 (u (o.getD nilPr).p.a.hi), .int .u64 (u (o.getD nilPr).p.a.lo), .bool (o.getD nilPr).p.a.v6, .int .i64 (o.getD nilPr).p.n, .int .i64 (o.getD nilPr).v], .bool o.isSome]) ∧ Below w.heap.size w w'

set_option maxHeartbeats 2000000 in
theorem rib_longest (H : RibS w r S n h L most) (a : Ad) : Calls Try.prog 15 #[.pointer (some ⟨r, 0, none⟩), .agg #[.int .u64 (u a.hi), .int .u64 (u a.lo), .bool a.v6]] w (OptPost w (longL L a)) := by
  obtain ⟨t, m, S0, D, HA, hI, rfl⟩ := H
  have HAA := Lib.hid HA
  clear HA hI
  obtain ⟨o, ho⟩ : ∃ o, longL L a = o := ⟨_, rfl⟩
  rw [ho]
  obtain ⟨y, hy⟩ : ∃ y, o.getD nilPr = y := ⟨_, rfl⟩
  have cl : ∀ W, RibA W r t m S0 D n h L most (hopsL L) → Calls Try.prog 42 #[.pointer (some ⟨t, 0, none⟩), .agg #[.int .u64 (u a.hi), .int .u64 (u a.lo), .bool a.v6]] W fun e w' => e = .returned (.tuple #[.agg #[.int .u64 (u y.p.a.hi), .int .u64 (u y.p.a.lo), .bool y.p.a.v6, .int .i64 y.p.n, .int .i64 y.v], .bool o.isSome]) ∧ Below W.heap.size W w' := fun W hA => by
    have := trie_longest hA.tree a
    rw [ho, hy] at this
    exact this
  have CL := Lib.hid cl
  unfold OptPost
  rw [hy]
  clear cl ho hy
  go_enter Try.func15, Try.ntmps15
  go_upto_region 1 with fail
  generalize hW : World.alloc _ _ = W
  have hz : w.heap.size ≤ W.heap.size := by subst hW; go_size
  have hB : Below w.heap.size w W := by subst hW; go_grown
  have pa : W.cell? ⟨w.heap.size, 0, none⟩ = some (.int .u64 (u a.hi)) := by subst hW; go_simp <;> rfl
  have pb : W.cell? ⟨w.heap.size, 1, none⟩ = some (.int .u64 (u a.lo)) := by subst hW; go_simp <;> rfl
  have pc : W.cell? ⟨w.heap.size, 2, none⟩ = some (.bool a.v6) := by subst hW; go_simp <;> rfl
  have h3 : W.heap[w.heap.size + 1]? = some (.cells #[.int .u64 0, .int .u64 0, .bool false, .int .i64 0, .int .i64 0] 37 (0, 0)) := by subst hW; repeat (first | (refine hp_new ?_; (simp; done)) | (refine hp_old ?_ ?_; · (first | (simp; done) | (simp; omega))))
  have z9 := lt_of_block h3
  have pz : w.heap.size < W.heap.size := by omega
  have HV := Lib.hid (HAA.out.keep hB)
  clear hW HAA
  go_cut [6, 7] (fun b s wx => s = .bool o.isSome ∧ ∃ q, b = .pointer (some ⟨q, 0, none⟩) ∧ QBox wx q y ∧ Below W.heap.size W wx)
  case first =>
    go_region_held3 (fun w' => w'.cell? ⟨w.heap.size, 0, none⟩ = some (.int .u64 (u a.hi)) ∧ w'.cell? ⟨w.heap.size, 1, none⟩ = some (.int .u64 (u a.lo)) ∧ w'.cell? ⟨w.heap.size, 2, none⟩ = some (.bool a.v6) ∧ Below W.heap.size W w')
      (first | exact keep3L hk5 pz pa pb pc | (refine keep3L ?_ pz pa pb pc; go_grown))
      (first | (go_at_call 57; refine (routes_any (HV.out.keep (by go_grown))).mono ?_; rintro e w4 ⟨rfl, rfl⟩) | (go_at_call 42; refine (CL.out _ (HV.out.keep (by go_grown))).mono ?_; rintro e w5 ⟨rfl, hw5⟩; have hk5 := below_of (w := W) (by go_grown) hw5; have zk5 := hk5.size; (try (refine y5_then (b := W.heap.size) (c0 := .int .u64 0) (c1 := .int .u64 0) (c2 := .bool false) (c3 := .int .i64 0) (c4 := .int .i64 0) hw5 ?_ ?_ ?_ ?_ ?_ ?_ ?_ ?_ ?_ ?_ ?_ (fun y4 => ?_); go_size; go_simp; go_simp; go_simp; go_simp; go_simp; go_simp; go_simp; go_simp; go_simp; go_simp; obtain ⟨ya, yb, yc, yg, yi, yd, ye, yf, yh, yj, yz⟩ := y4))))
    all_goals (go_wp2_with fail; go_meet)
    all_goals
      refine ⟨rfl, _, rfl, ⟨?_, ?_, ?_, ?_, ?_, ?_⟩, ?_⟩
      all_goals first | (go_simp; done) | (go_simp <;> rfl) | go_size | go_grown
  case rest =>
    obtain ⟨rfl, q, rfl, ⟨ya, yb, yc, yg, yi, yz⟩, hbc⟩ := hcut
    have h3' := (hbc.block _ z9).trans h3
    have b5 := hB.trans (hbc.mono hz)
    have hbz := hbc.size
    clear h3 hbc pa pb pc pz HV CL
    go_wp2_with fail
    refine (route_any y _).mono ?_
    rintro e w6 ⟨rfl, hw6⟩
    have h6 := (hw6.block (w.heap.size + 1) (by omega)).trans h3'
    have b6 := b5.trans (hw6.mono b5.size)
    have r0 : w6.cell? ⟨w.heap.size + 1, 0, none⟩ = some (.int .u64 0) := by rw [cell_row h6]; rfl
    have r1 : w6.cell? ⟨w.heap.size + 1, 1, none⟩ = some (.int .u64 0) := by rw [cell_row h6]; rfl
    have r2 : w6.cell? ⟨w.heap.size + 1, 2, none⟩ = some (.bool false) := by rw [cell_row h6]; rfl
    have r3 : w6.cell? ⟨w.heap.size + 1, 3, none⟩ = some (.int .i64 0) := by rw [cell_row h6]; rfl
    have r4 : w6.cell? ⟨w.heap.size + 1, 4, none⟩ = some (.int .i64 0) := by rw [cell_row h6]; rfl
    have q0 := frozen_of_row w6 (w.heap.size + 1) 0 _ _ h6
    have q1 := frozen_of_row w6 (w.heap.size + 1) 1 _ _ h6
    have q2 := frozen_of_row w6 (w.heap.size + 1) 2 _ _ h6
    have q3 := frozen_of_row w6 (w.heap.size + 1) 3 _ _ h6
    have q4 := frozen_of_row w6 (w.heap.size + 1) 4 _ _ h6
    clear h6 h3' hw6 ya yb yc yg yi
    go_wp2
    refine bodyPost_ret (v := .tuple #[.agg #[.int .u64 (u y.p.a.hi), .int .u64 (u y.p.a.lo), .bool y.p.a.v6, .int .i64 y.p.n, .int .i64 y.v], .bool o.isSome]) (by simp [*, results, Try.results15, go_sem] <;> rfl) rfl ⟨rfl, ?_⟩
    exact b6.trans (((((((Below.refl _ _).setCell (by simp) _).setCell (by simp) _).setCell (by simp) _).setCell (by simp) _).setCell (by simp) _))

end

end Go.Proofs.Ytnepmlhbheaonaa

namespace Go.Proofs.Ytnepmlhbheaonaa
open Go.RowKit Go.Maps
set_option maxRecDepth 100000

/-- A fresh row of routes. -/
def RoutesPost (w : World) (l : List Pr) (e : Ending) (w' : World) : Prop := ∃ v, e = .returned v ∧ w'.ownsRow w.heap.size 37 5 v l.length (prv l) ∧ Below w.heap.size w w'
/-- At the head of a round of the inner loop: B are there, and j of U. -/
def DumpRel (w : World) (b0 : Nat) (U B : List Pr) (vU : Value) (o i : Value) (wr : World) : Prop :=
  ∃ j N : Nat, N = B.length + j ∧ j ≤ U.length ∧ i = .int .i64 j ∧ wr.ownsRow w.heap.size 37 5 o N (prv (B ++ U.take j)) ∧ wr.ownsRow b0 90 5 vU U.length (prv U) ∧ (∀ b, o.ownBlock = some b → vU.ownBlock ≠ some b) ∧ Below w.heap.size w wr
section
variable {ops : Array Oper} {o : Oper} {a : Act} {w : World} {Q : Exit → Act → World → Prop}
theorem wpList_five1g {E SL : TypeId} (F : Five E SL) {rest : List Oper} (hgd : o.guard = none) (s x : Operand) (ho : o.op = .call { callee := .builtin .append, args := #[s, x], argTypes := #[SL, SL] }) (base : Nat) (v : Value) (n : Nat) (l : List Pr) (hs : a.eval s = v)
    (hown : w.ownsRow base E 5 v n (prv l)) (g : Nat) (r : Pr) (hx : a.eval x = .slice (some ⟨g, 0, none⟩) 1 1) (hg : w.heap[g]? = some (.cells (pr5 r).toArray E (0, 0))) (hb : n ≤ 1000000000) (hbase : base ≤ w.heap.size)
    (h : ∀ g' cap w', w'.ownsRow base E 5 (.slice (some ⟨g', 0, none⟩) (n + 1) cap) (n + 1) (prv (l ++ [r])) → w.grownBy w' v.ownBlock → (v.ownBlock = some g' ∨ g' = w.heap.size) → wpList Try.prog ops Q rest (a.put o.dst (.slice (some ⟨g', 0, none⟩) (n + 1) cap)) w') : wpList Try.prog ops Q (o :: rest) a w := by
  obtain ⟨i0, hi0, hz0, hz1, hz2⟩ := info_parts F.info
  refine wpList_append_lies w hgd s x _ ho base E i0 _ 5 40 F.sl hi0 hz0 hz1 hz2 rfl (by omega) v n _ hs hown ⟨g, 0, none⟩ 1 1 (pr5 r) hx rfl (World.news_of_block (cs := (pr5 r).toArray) hg) (pr5_cell _) (by omega) (by simp only [maxLen]; omega) (by omega) hbase _ rfl ?_
  intro g' cap w' h1 h2 h3 _
  refine h g' cap w' ?_ h2 h3
  rw [prv_append, prv_one]
  exact h1
end
theorem take_one' (l : List Pr) {k : Nat} (h : k < l.length) : l.take (k + 1) = l.take k ++ [l[k]] := List.take_succ_eq_append_getElem h
theorem own_ge' {w : World} {base : Nat} {e : TypeId} {size n : Nat} {v : Value} {xs : List Value} (h : w.ownsRow base e size v n xs) {b : Nat} (hb : v.ownBlock = some b) : base ≤ b ∧ b < w.heap.size := h.lt b hb

@[simp] theorem idx_bools0 (a b : Bool) (w : World) : (Instr.index 111 (.agg #[.bool a, .bool b]) (.int .i64 0)).run Try.prog w = .ok (.bool a) w := by
  have hs : (Try.prog.info? 4).map (·.size) = some 1 := by kernel_rfl
  obtain ⟨i, hi, h1⟩ := Option.map_eq_some_iff.1 hs
  simp [Instr.index, run_underlying Try.underlying111, sizeOf, typeInfo, hi, h1, asIntOf, part, go_sem]
@[simp] theorem idx_bools1 (a b : Bool) (w : World) : (Instr.index 111 (.agg #[.bool a, .bool b]) (.int .i64 1)).run Try.prog w = .ok (.bool b) w := by
  have hs : (Try.prog.info? 4).map (·.size) = some 1 := by kernel_rfl
  obtain ⟨i, hi, h1⟩ := Option.map_eq_some_iff.1 hs
  simp [Instr.index, run_underlying Try.underlying111, sizeOf, typeInfo, hi, h1, asIntOf, part, go_sem]
@[simp] theorem bool_cells (h : 4 < Try.prog.types.size) : (Try.prog.types[4]'h).size = 1 := by
  have hs : (Try.prog.types[4]?).map (·.size) = some 1 := by kernel_rfl
  rw [Array.getElem?_eq_getElem h] at hs
  simpa using hs
theorem dump_next {w wr w3 w4 : World} {b0 j N g' cap : Nat} {U B : List Pr} {vU vo : Value} {y : Pr} {obj : Obj} (hN : N = B.length + j) (hjl : j < U.length) (hy : U[j] = y) (hO : wr.ownsRow w.heap.size 37 5 vo N (prv (B ++ U.take j))) (hU : wr.ownsRow b0 90 5 vU U.length (prv U)) (hne : ∀ b, vo.ownBlock = some b → vU.ownBlock ≠ some b) (hB : Below w.heap.size w wr) (hb : Below wr.heap.size wr w3)
    (ho4 : w4.ownsRow w.heap.size 37 5 (.slice (some ⟨g', 0, none⟩) (N + 1) cap) (N + 1) (prv (B ++ U.take j ++ [y]))) (hg4 : (w3.alloc obj).grownBy w4 vo.ownBlock) (hor : vo.ownBlock = some g' ∨ g' = (w3.alloc obj).heap.size) :
    DumpRel w b0 U B vU (.slice (some ⟨g', 0, none⟩) (N + 1) cap) (.int .i64 ((j : Int) + 1)) w4 := by
  have hlt : ∀ b, vU.ownBlock = some b → b < wr.heap.size := fun b hb' => (hU.lt b hb').2
  have hz3 := hb.size
  have hza : (w3.alloc obj).heap.size = w3.heap.size + 1 := by simp
  refine ⟨j + 1, N + 1, by omega, hjl, by simp, ?_, ?_, ?_, ?_⟩
  · rw [take_one' U hjl, hy, ← List.append_assoc]
    exact ho4
  · refine own_block hU (fun b hb' hl => ?_)
    rw [hg4.block b (by omega) (fun e => hne b e.symm hb'), Below.heap_alloc _ _ b (by omega), hb.block b hl]
  · intro b hb'
    have e : b = g' := by simpa [Value.ownBlock] using hb'.symm
    subst e
    rcases hor with e | e
    · exact hne _ e
    · intro e2
      have := hlt _ e2
      omega
  · have h1 : Below w.heap.size w w3 := hB.trans (hb.mono hB.size)
    have h2 := h1.alloc h1.size obj
    exact h2.grown hg4 h2.size (fun k hk => (hO.lt k hk).1)

set_option maxHeartbeats 2000000 in
/-- The inner loop's contract is walked within Dump. -/
theorem rib_dump {w : World} {r : Nat} {S : Nat → Prop} {n h : Int} {L : List Pr} {most : Nat} (H : RibS w r S n h L most) : Calls Try.prog 21 #[.pointer (some ⟨r, 0, none⟩)] w (RoutesPost w L) := by
  obtain ⟨t, m, S0, D, HA, hI, rfl⟩ := H
  have hln : L.length ≤ 4096 := by have := hI.few; have := hI.n0; omega
  have hs := HA.tree.srt
  have hae := all_eq hs
  have hl4 := List.length_filter_le (fun x : Pr => pcov root4 x.p) L
  have hl6 := List.length_filter_le (fun x : Pr => pcov root6 x.p) L
  obtain ⟨L4, hL4⟩ : ∃ l, (L.filter fun x => pcov root4 x.p) = l := ⟨_, rfl⟩
  obtain ⟨L6, hL6⟩ : ∃ l, (L.filter fun x => pcov root6 x.p) = l := ⟨_, rfl⟩
  have c4 : ∀ W, RibA W r t m S0 D n h L most (hopsL L) → Calls Try.prog 46 #[.pointer (some ⟨t, 0, none⟩), .agg #[.int .u64 0, .int .u64 0, .bool false, .int .i64 0]] W (ListPost W L4) := fun W hA => by
    have := trie_under hA.tree root4
    rw [hL4] at this
    exact this
  have c6 : ∀ W, RibA W r t m S0 D n h L most (hopsL L) → Calls Try.prog 46 #[.pointer (some ⟨t, 0, none⟩), .agg #[.int .u64 0, .int .u64 0, .bool true, .int .i64 0]] W (ListPost W L6) := fun W hA => by
    have := trie_under hA.tree root6
    rw [hL6] at this
    exact this
  rw [hL4] at hae hl4
  rw [hL6] at hae hl6
  have HAA := Lib.hid HA
  have C4 := Lib.hid c4
  have C6 := Lib.hid c6
  have HE := Lib.hid hae
  have hsum : L4.length + L6.length = L.length := by rw [← hae, List.length_append]
  have HSUM := Lib.hid hsum
  clear HA hI hs hae hL4 hL6 c4 c6 hsum
  go_enter Try.func21, Try.ntmps21
  go_wp2_with fail
  refine wp_loop_rounds 3 ?_
  rw [rounds_succ]
  go_wp2_with fail
  refine (routes_any HAA.out).mono ?_
  rintro e w1 ⟨rfl, rfl⟩
  go_wp2_with fail
  refine (C4.out _ HAA.out).mono ?_
  rintro e w2 ⟨v2, rfl, ho2, hw2⟩
  have HO2 := Lib.hid ho2
  have HA2 := Lib.hid (HAA.out.keep hw2)
  obtain ⟨A2, d2, rfl, -⟩ := own_val ho2
  clear ho2
  go_wp2_with fail
  go_loopw [3, 19] (fun o i wr => DumpRel w w.heap.size L4 [] (.slice A2 L4.length d2) o i wr) (fun _ i _ => L4.length - (intOf i).toNat)
  case atStart => exact ⟨0, 0, rfl, Nat.zero_le _, rfl, World.ownsRow_nil _ _ _ _, HO2.out, (fun b hb => by cases hb), hw2⟩
  case round =>
    obtain ⟨j, N, hN, hj, rfl, hown, hU, hne, hB⟩ := hrel
    have HO := Lib.hid hown
    have hN9 : N ≤ 1000000 := by (try simp only [List.length_nil] at hN); omega
    have HN := Lib.hid hN
    clear hN
    have HU := Lib.hid hU
    have HNE := Lib.hid hne
    obtain ⟨A5, c5, rfl, -⟩ := own_val hown
    have hz := hB.size
    clear hown hU hne
    by_cases hjl : j < L4.length
    · obtain ⟨g, cg, eg, -, zg, hcc⟩ := row_cell HU.out rfl hjl
      simp only [Value.slice.injEq, true_and] at eg
      obtain ⟨rfl, rfl⟩ := eg
      have m0 : wr.cell? ⟨g, j * 5, none⟩ = some (.int .u64 (u L4[j].p.a.hi)) := hcc 0 (by omega)
      have m1 : wr.cell? ⟨g, j * 5 + 1, none⟩ = some (.int .u64 (u L4[j].p.a.lo)) := hcc 1 (by omega)
      have m2 : wr.cell? ⟨g, j * 5 + 2, none⟩ = some (.bool L4[j].p.a.v6) := hcc 2 (by omega)
      have m3 : wr.cell? ⟨g, j * 5 + 3, none⟩ = some (.int .i64 L4[j].p.n) := hcc 3 (by omega)
      have m4 : wr.cell? ⟨g, j * 5 + 4, none⟩ = some (.int .i64 L4[j].v) := hcc 4 (by omega)
      obtain ⟨y, hy⟩ : ∃ y, L4[j] = y := ⟨_, rfl⟩
      rw [hy] at m0 m1 m2 m3 m4
      have HY := Lib.hid hy
      have hgz : ¬ g = wr.heap.size := by omega
      clear hcc hy
      go_wp2_with fail
      refine (route_any y _).mono ?_
      rintro e w3 ⟨rfl, hw3⟩
      have bb : Below wr.heap.size wr w3 := below_of (by go_grown) hw3
      have HO3 := Lib.hid (own_fresh HO.out bb)
      have z3 := bb.size
      clear hw3 m0 m1 m2 m3 m4
      go_wp2_with (
        at_builtin
        refine wpList_five1g five_route rfl (.tmp 23) (.tmp 26) rfl w.heap.size _ N ([] ++ L4.take j) (by rfl) (HO3.out.alloc _) w3.heap.size y (by rfl) (heap_alloc_new w3 _) (by omega) (by simp; omega) ?_
        intro g' cap w4 ho4 hg4 hor
        have HD := Lib.hid (dump_next HN.out hjl HY.out HO.out HU.out HNE.out hB bb ho4 hg4 hor)
        clear ho4 hg4 hor
        )
      go_roundw
      case rel =>
        have := HD.out
        exact this
      case measure => simp [intOf]; omega
    · obtain rfl : j = L4.length := by omega
      have e1 := HO.out
      rw [List.take_length, List.nil_append] at e1
      have HE1 := Lib.hid e1
      have hN4 : N = L4.length := by have := HN.out; simpa using this
      have HN4 := Lib.hid hN4
      have HA3 := Lib.hid (HAA.out.keep hB)
      have t1 : decide ((L4.length : Int) < (L4.length : Int)) = false := by simp
      clear e1 hN4 HO HU HNE HN HA2 HO2 hw2
      go_wp2_with fail
      rw [rounds_succ]
      go_wp2_with fail
      refine (routes_any HA3.out).mono ?_
      rintro e w3 ⟨rfl, rfl⟩
      go_wp2_with fail
      refine (C6.out _ HA3.out).mono ?_
      rintro e w6 ⟨v6, rfl, ho6, hw6⟩
      have HO6 := Lib.hid ho6
      have HE6 := Lib.hid (own_fresh HE1.out hw6)
      have b6 := hB.trans (hw6.mono hz)
      have hne6 : ∀ b, (Value.slice A5 N c5).ownBlock = some b → v6.ownBlock ≠ some b := fun b hb e => by
        have h1 := (HE1.out.lt b hb).2
        have h2 := (ho6.lt b e).1
        omega
      obtain ⟨A6, d6, rfl, -⟩ := own_val ho6
      have HNE6 := Lib.hid hne6
      obtain ⟨w3, rfl⟩ : ∃ w3, w3 = wr := ⟨_, rfl⟩
      clear ho6 hne6 hw6 HE1
      go_wp2_with fail
      go_loopw [3, 19] (fun o i wr => DumpRel w w3.heap.size L6 L4 (.slice A6 L6.length d6) o i wr) (fun _ i _ => L6.length - (intOf i).toNat)
      case atStart => exact ⟨0, N, HN4.out, Nat.zero_le _, rfl, by rw [List.take_zero, List.append_nil]; exact HE6.out, HO6.out, HNE6.out, b6⟩
      case round =>
        clear hB hz
        obtain ⟨j, N, hN, hj, rfl, hown, hU, hne, hB⟩ := hrel
        have HO := Lib.hid hown
        have hN9 : N ≤ 1000000 := by (try simp only [List.length_nil] at hN); omega
        have HN := Lib.hid hN
        clear hN
        have HU := Lib.hid hU
        have HNE := Lib.hid hne
        obtain ⟨A5, c5, rfl, -⟩ := own_val hown
        have hz := hB.size
        clear hown hU hne
        by_cases hjl : j < L6.length
        · obtain ⟨g, cg, eg, -, zg, hcc⟩ := row_cell HU.out rfl hjl
          simp only [Value.slice.injEq, true_and] at eg
          obtain ⟨rfl, rfl⟩ := eg
          have m0 : wr.cell? ⟨g, j * 5, none⟩ = some (.int .u64 (u L6[j].p.a.hi)) := hcc 0 (by omega)
          have m1 : wr.cell? ⟨g, j * 5 + 1, none⟩ = some (.int .u64 (u L6[j].p.a.lo)) := hcc 1 (by omega)
          have m2 : wr.cell? ⟨g, j * 5 + 2, none⟩ = some (.bool L6[j].p.a.v6) := hcc 2 (by omega)
          have m3 : wr.cell? ⟨g, j * 5 + 3, none⟩ = some (.int .i64 L6[j].p.n) := hcc 3 (by omega)
          have m4 : wr.cell? ⟨g, j * 5 + 4, none⟩ = some (.int .i64 L6[j].v) := hcc 4 (by omega)
          obtain ⟨y, hy⟩ : ∃ y, L6[j] = y := ⟨_, rfl⟩
          rw [hy] at m0 m1 m2 m3 m4
          have HY := Lib.hid hy
          have hgz : ¬ g = wr.heap.size := by omega
          clear hcc hy
          go_wp2_with fail
          refine (route_any y _).mono ?_
          rintro e w3 ⟨rfl, hw3⟩
          have bb : Below wr.heap.size wr w3 := below_of (by go_grown) hw3
          have HO3 := Lib.hid (own_fresh HO.out bb)
          have z3 := bb.size
          clear hw3 m0 m1 m2 m3 m4
          go_wp2_with (
            at_builtin
            refine wpList_five1g five_route rfl (.tmp 23) (.tmp 26) rfl w.heap.size _ N (L4 ++ L6.take j) (by rfl) (HO3.out.alloc _) w3.heap.size y (by rfl) (heap_alloc_new w3 _) (by omega) (by simp; omega) ?_
            intro g' cap w4 ho4 hg4 hor
            have HD := Lib.hid (dump_next HN.out hjl HY.out HO.out HU.out HNE.out hB bb ho4 hg4 hor)
            clear ho4 hg4 hor
            )
          go_roundw
          case rel =>
            have := HD.out
            exact this
          case measure => simp [intOf]; omega
        · obtain rfl : j = L6.length := by omega
          have e1 := HO.out
          rw [List.take_length, HE.out] at e1
          have hN6 : N = L.length := by rw [HN.out, HSUM.out]
          rw [hN6] at e1
          have HE1 := Lib.hid e1
          have HN6 := Lib.hid hN6
          have t2 : decide ((L6.length : Int) < (L6.length : Int)) = false := by simp
          clear e1 hN6 HO HU HNE HN
          go_wp2_with fail
          rw [rounds_succ]
          go_wp2
          go_ret
          exact ⟨_, (by rw [← HN6.out]; rfl), HE1.out, hB⟩

end Go.Proofs.Ytnepmlhbheaonaa

namespace Go.Proofs.Ytnepmlhbheaonaa
open Go.RowKit Go.Maps
set_option maxRecDepth 100000

section
variable {w : World} {r : Nat} {S : Nat → Prop} {n h : Int} {L : List Pr} {most : Nat}
/-- The last one that covers a prefix. -/
def govL (L : List Pr) (p : Pf) : Option Pr := (L.filter fun x => pcov x.p p).getLast?
set_option maxHeartbeats 2000000 in
theorem rib_governs (H : RibS w r S n h L most) (p : Pf) : Calls Try.prog 16 #[.pointer (some ⟨r, 0, none⟩), .agg #[.int .u64 (u p.a.hi), .int .u64 (u p.a.lo), .bool p.a.v6, .int .i64 p.n]] w (OptPost w (govL L p)) := by
  obtain ⟨t, m, S0, D, HA, hI, rfl⟩ := H
  have hln : L.length ≤ 4096 := by have := hI.few; have := hI.n0; omega
  have HAA := Lib.hid HA
  clear HA hI
  have hfl := List.length_filter_le (fun x : Pr => pcov x.p p) L
  unfold govL
  obtain ⟨F, hF⟩ : ∃ F, (L.filter fun x => pcov x.p p) = F := ⟨_, rfl⟩
  have ca : ∀ W, RibA W r t m S0 D n h L most (hopsL L) → Calls Try.prog 45 #[.pointer (some ⟨t, 0, none⟩), .agg #[.int .u64 (u p.a.hi), .int .u64 (u p.a.lo), .bool p.a.v6, .int .i64 p.n]] W (ListPost W F) := fun W hA => by
    have := trie_above hA.tree p
    rw [hF] at this
    exact this
  rw [hF] at hfl ⊢
  have CA := Lib.hid ca
  clear ca hF
  go_enter Try.func16, Try.ntmps16
  go_wp2_with fail
  generalize hW : World.alloc _ _ = W
  have hz : w.heap.size ≤ W.heap.size := by subst hW; go_size
  have hB : Below w.heap.size w W := by subst hW; go_grown
  have hpb : PBox W w.heap.size p := by subst hW; exact ⟨by go_simp <;> rfl, by go_simp <;> rfl, by go_simp <;> rfl, by go_simp <;> rfl, by go_simp <;> rfl, by go_simp <;> rfl, by go_simp <;> rfl, by go_simp <;> rfl, by go_size⟩
  have h3 : W.heap[w.heap.size + 1]? = some (.cells #[.int .u64 0, .int .u64 0, .bool false, .int .i64 0, .int .i64 0] 37 (0, 0)) := by subst hW; repeat (first | (refine hp_new ?_; (simp; done)) | (refine hp_old ?_ ?_; · (first | (simp; done) | (simp; omega))))
  have z9 := lt_of_block h3
  obtain ⟨pa, pb, pc, pd, -, -, -, -, pz⟩ := hpb
  have HV := Lib.hid (HAA.out.keep hB)
  clear hW HAA
  have La := fun x : Later W.heap.size W => (x.cell pz).trans pa
  have Lb := fun x : Later W.heap.size W => (x.cell pz).trans pb
  have Lc := fun x : Later W.heap.size W => (x.cell pz).trans pc
  have Ld := fun x : Later W.heap.size W => (x.cell pz).trans pd
  refine region_tail 3 W.heap.size (by kernel_rfl) (by kernel_rfl) ?_
  simp only [List.take_succ_cons, List.take_zero, List.drop_succ_cons, List.drop_zero]
  repeat (go_big_quiet_step ((go_at_call 57; exact later_same (routes_any (HV.out.keep (Later.below _))))))
  refine wpQuiet_nil ?_
  intro x
  have hx := x.below
  generalize x.at = V at hx ⊢
  clear x La Lb Lc Ld pa pb pc pd
  have HV2 := Lib.hid (HV.out.keep hx)
  have bV := hB.trans (hx.mono hz)
  have hV3 := (hx.block _ z9).trans h3
  have vz := hx.size
  clear hx HV h3 hB pz
  go_wp2_with fail
  refine (CA.out _ HV2.out).mono ?_
  rintro e w5 ⟨v5, rfl, ho5, hw5⟩
  have b5 := bV.trans (hw5.mono bV.size)
  have h5 := (hw5.block (w.heap.size + 1) (by omega)).trans hV3
  have z5 := hw5.size
  have HO := Lib.hid ho5
  obtain ⟨A5, c5, rfl, -⟩ := own_val ho5
  clear ho5 hw5 HV2 CA hV3 bV
  rcases Nat.eq_zero_or_pos F.length with hl | hl
  · have hF0 : F = [] := List.eq_nil_of_length_eq_zero hl
    subst hF0
    have r0 : w5.cell? ⟨w.heap.size + 1, 0, none⟩ = some (.int .u64 0) := by rw [cell_row h5]; rfl
    have r1 : w5.cell? ⟨w.heap.size + 1, 1, none⟩ = some (.int .u64 0) := by rw [cell_row h5]; rfl
    have r2 : w5.cell? ⟨w.heap.size + 1, 2, none⟩ = some (.bool false) := by rw [cell_row h5]; rfl
    have r3 : w5.cell? ⟨w.heap.size + 1, 3, none⟩ = some (.int .i64 0) := by rw [cell_row h5]; rfl
    have r4 : w5.cell? ⟨w.heap.size + 1, 4, none⟩ = some (.int .i64 0) := by rw [cell_row h5]; rfl
    have q0 := frozen_of_row w5 (w.heap.size + 1) 0 _ _ h5
    have q1 := frozen_of_row w5 (w.heap.size + 1) 1 _ _ h5
    have q2 := frozen_of_row w5 (w.heap.size + 1) 2 _ _ h5
    have q3 := frozen_of_row w5 (w.heap.size + 1) 3 _ _ h5
    have q4 := frozen_of_row w5 (w.heap.size + 1) 4 _ _ h5
    clear h5
    go_wp2
    refine bodyPost_ret (v := .tuple #[.agg #[.int .u64 0, .int .u64 0, .bool false, .int .i64 0, .int .i64 0], .bool false]) (by simp [*, results, Try.results16, go_sem] <;> rfl) rfl ⟨rfl, ?_⟩
    exact b5.trans (((((((Below.refl _ _).setCell (by simp) _).setCell (by simp) _).setCell (by simp) _).setCell (by simp) _).setCell (by simp) _))
  · obtain ⟨k, hk⟩ : ∃ k, F.length = k + 1 := ⟨F.length - 1, by omega⟩
    have hkl : k < F.length := by omega
    have hgo : F.getLast? = some F[k] := by
      rw [List.getLast?_eq_getElem?, hk, Nat.add_sub_cancel, List.getElem?_eq_getElem hkl]
    obtain ⟨g, cg, eg, -, zg, hcc⟩ := row_cell HO.out rfl hkl
    simp only [Value.slice.injEq, true_and] at eg
    obtain ⟨rfl, rfl⟩ := eg
    have m0 : w5.cell? ⟨g, k * 5, none⟩ = some (.int .u64 (u F[k].p.a.hi)) := hcc 0 (by omega)
    have m1 : w5.cell? ⟨g, k * 5 + 1, none⟩ = some (.int .u64 (u F[k].p.a.lo)) := hcc 1 (by omega)
    have m2 : w5.cell? ⟨g, k * 5 + 2, none⟩ = some (.bool F[k].p.a.v6) := hcc 2 (by omega)
    have m3 : w5.cell? ⟨g, k * 5 + 3, none⟩ = some (.int .i64 F[k].p.n) := hcc 3 (by omega)
    have m4 : w5.cell? ⟨g, k * 5 + 4, none⟩ = some (.int .i64 F[k].v) := hcc 4 (by omega)
    generalize F[k] = y at m0 m1 m2 m3 m4 hgo
    have HGO := Lib.hid hgo
    have t1 : (((k + 1 : Nat) : Int) == 0) = false := by simp; omega
    have hk9 : (k : Int) + 1 ≤ 5000 := by omega
    rw [hk]
    have HK := Lib.hid hk
    clear hk hkl hl hfl hgo hcc HO
    go_wp2_with fail
    refine (route_any y _).mono ?_
    rintro e w6 ⟨rfl, hw6⟩
    have h6 := (hw6.block (w.heap.size + 1) (by omega)).trans h5
    have b6 := b5.trans (hw6.mono b5.size)
    have r0 : w6.cell? ⟨w.heap.size + 1, 0, none⟩ = some (.int .u64 0) := by rw [cell_row h6]; rfl
    have r1 : w6.cell? ⟨w.heap.size + 1, 1, none⟩ = some (.int .u64 0) := by rw [cell_row h6]; rfl
    have r2 : w6.cell? ⟨w.heap.size + 1, 2, none⟩ = some (.bool false) := by rw [cell_row h6]; rfl
    have r3 : w6.cell? ⟨w.heap.size + 1, 3, none⟩ = some (.int .i64 0) := by rw [cell_row h6]; rfl
    have r4 : w6.cell? ⟨w.heap.size + 1, 4, none⟩ = some (.int .i64 0) := by rw [cell_row h6]; rfl
    have q0 := frozen_of_row w6 (w.heap.size + 1) 0 _ _ h6
    have q1 := frozen_of_row w6 (w.heap.size + 1) 1 _ _ h6
    have q2 := frozen_of_row w6 (w.heap.size + 1) 2 _ _ h6
    have q3 := frozen_of_row w6 (w.heap.size + 1) 3 _ _ h6
    have q4 := frozen_of_row w6 (w.heap.size + 1) 4 _ _ h6
    clear h6 h5 hw6 m0 m1 m2 m3 m4
    go_wp2
    refine bodyPost_ret (v := .tuple #[.agg #[.int .u64 (u y.p.a.hi), .int .u64 (u y.p.a.lo), .bool y.p.a.v6, .int .i64 y.p.n, .int .i64 y.v], .bool true]) (by simp [*, results, Try.results16, go_sem] <;> rfl) rfl ⟨by rw [HGO.out]; rfl, ?_⟩
    exact b6.trans (((((((Below.refl _ _).setCell (by simp) _).setCell (by simp) _).setCell (by simp) _).setCell (by simp) _).setCell (by simp) _))
end

end Go.Proofs.Ytnepmlhbheaonaa

namespace Go.Proofs.Ytnepmlhbheaonaa
open Go.RowKit Go.Maps
set_option maxRecDepth 100000

def rdoQ (n h : Int) (x : Ac) (L : List Pr) : List Pr := if x.out = true then delQ x.p L else addQ n h L x.p x.v
def rdoM (n h : Int) (x : Ac) (L : List Pr) (most : Nat) : Nat := if x.out = true then most else addM n h L x.p x.v most
def rdoE (n h : Int) (x : Ac) (L : List Pr) : Int := if x.out = true then delE x.p L else addE n h L x.p x.v
section
variable {w : World} {r : Nat} {S : Nat → Prop} {n h : Int} {L : List Pr} {most : Nat}
theorem RibPost.wide {w0 w' : World} {v : Value} {e : Ending} (hb : Below w0.heap.size w0 w) (hp : RibPost r S w n h L most v e w') : RibPost r S w0 n h L most v e w' := by
  obtain ⟨he, S', h1, h2, h3⟩ := hp
  exact ⟨he, S', h1, (frm_of_below (S := S) hb).trans h2 (Sub.refl _ _), fun b hb' => (h3 b hb').imp id (fun h => by have := hb.size; omega)⟩
set_option maxHeartbeats 1000000 in
theorem rdo_any (H : RibS w r S n h L most) (hb : most + 128 ≤ 1000000000) (x : Ac) :
    Calls Try.prog 24 #[.pointer (some ⟨r, 0, none⟩), .agg #[.bool x.out, .int .u64 (u x.p.a.hi), .int .u64 (u x.p.a.lo), .bool x.p.a.v6, .int .i64 x.p.n, .int .i64 x.v]] w (fun e w' => RibPost r S w n h (rdoQ n h x L) (rdoM n h x L most) (.int .i64 (rdoE n h x L)) e w' ∧ rdoM n h x L most ≤ most + 128) := by
  have HT := Lib.hid H

  clear H
  cases hx : x.out
  · have HD : Hid (rdoQ n h x L = addQ n h L x.p x.v ∧ rdoM n h x L most = addM n h L x.p x.v most ∧ rdoE n h x L = addE n h L x.p x.v) := by unfold rdoQ rdoM rdoE; rw [hx]; exact ⟨rfl, rfl, rfl⟩
    clear hx
    go_enter Try.func24, Try.ntmps24
    go_wp2_with fail
    have hbw : Below w.heap.size w (w.alloc (.cells #[.bool false, .int .u64 (u x.p.a.hi), .int .u64 (u x.p.a.lo), .bool x.p.a.v6, .int .i64 x.p.n, .int .i64 x.v] 52)) := by go_grown
    refine (rib_add (HT.out.keep hbw) hb x.p x.v).mono ?_
    rintro e w1 ⟨hp, g4⟩
    obtain ⟨rfl, -⟩ := id hp
    have HP := Lib.hid (hp.wide hbw)
    clear hp
    go_wp2
    go_ret
    rw [HD.out.1, HD.out.2.1, HD.out.2.2]
    exact ⟨HP.out, g4⟩
  · have HD : Hid (rdoQ n h x L = delQ x.p L ∧ rdoM n h x L most = most ∧ rdoE n h x L = delE x.p L) := by unfold rdoQ rdoM rdoE; rw [hx]; exact ⟨rfl, rfl, rfl⟩
    clear hx
    go_enter Try.func24, Try.ntmps24
    go_wp2_with fail
    have hbw : Below w.heap.size w (w.alloc (.cells #[.bool true, .int .u64 (u x.p.a.hi), .int .u64 (u x.p.a.lo), .bool x.p.a.v6, .int .i64 x.p.n, .int .i64 x.v] 52)) := by go_grown
    refine (rib_withdraw (HT.out.keep hbw) hb x.p).mono ?_
    rintro e w1 hp
    obtain ⟨rfl, -⟩ := id hp
    have HP := Lib.hid (hp.wide hbw)
    clear hp
    go_wp2
    go_ret
    rw [HD.out.1, HD.out.2.1, HD.out.2.2]
    exact ⟨HP.out, Nat.le_add_right _ _⟩
end
/-- What is there behind the first k things. -/
def rplays (n h : Int) : List Ac → List Pr × Nat
  | [] => ([], 2)
  | x :: r => (rdoQ n h x (rplays n h r).1, rdoM n h x (rplays n h r).1 (rplays n h r).2)
def rplayK (n h : Int) (ls : List Ac) (k : Nat) : List Pr × Nat := rplays n h (ls.take k).reverse
theorem rplayK_succ (n h : Int) (ls : List Ac) (k : Nat) (hk : k < ls.length) : rplayK n h ls (k + 1) = (rdoQ n h ls[k] (rplayK n h ls k).1, rdoM n h ls[k] (rplayK n h ls k).1 (rplayK n h ls k).2) := by
  unfold rplayK
  rw [List.take_succ_eq_append_getElem hk, List.reverse_append]
  rfl
/-- At the head of a round of things done: the routes are what the first k of them leave; their blocks are from N on. -/
def RPlayRel (w : World) (N r : Nat) (n h : Int) (ls : List Ac) (P : World → Prop) (i : Value) (wr : World) : Prop :=
  ∃ (k : Nat) (S : Nat → Prop), k ≤ ls.length ∧ i = .int .i64 k ∧ RibS wr r S n h (rplayK n h ls k).1 (rplayK n h ls k).2 ∧ (rplayK n h ls k).2 ≤ 2 + 128 * k ∧ (∀ b, S b → N ≤ b) ∧ Below w.heap.size w wr ∧ N ≤ wr.heap.size ∧ P wr
theorem rplay_next {w0 wr w2 : World} {N r : Nat} {n h : Int} {ls : List Ac} {k : Nat} {S S2 : Nat → Prop} (hk : k < ls.length) (hN : ∀ b, S b → N ≤ b) (hz : N ≤ wr.heap.size) (hN0 : w0.heap.size ≤ N) (hB : Below w0.heap.size w0 wr)
    (g1 : RibS w2 r S2 n h (rdoQ n h ls[k] (rplayK n h ls k).1) (rdoM n h ls[k] (rplayK n h ls k).1 (rplayK n h ls k).2)) (g2 : Frm S wr w2) (g3 : Sub S S2 wr.heap.size) (g4 : rdoM n h ls[k] (rplayK n h ls k).1 (rplayK n h ls k).2 ≤ (rplayK n h ls k).2 + 128) (hm : (rplayK n h ls k).2 ≤ 2 + 128 * k) :
    RibS w2 r S2 n h (rplayK n h ls (k + 1)).1 (rplayK n h ls (k + 1)).2 ∧ (rplayK n h ls (k + 1)).2 ≤ 2 + 128 * (k + 1) ∧ (∀ b, S2 b → N ≤ b) ∧ Below w0.heap.size w0 w2 ∧ N ≤ w2.heap.size ∧ Below N wr w2 := by
  have hbn : Below N wr w2 := g2.below hN hz
  rw [rplayK_succ n h ls k hk]
  refine ⟨g1, by simp only; omega, fun b hb => ?_, hB.trans (hbn.mono hN0), Nat.le_trans hz g2.size, hbn⟩
  rcases g3 b hb with e | e
  · exact hN b e
  · omega

theorem exR : addE 9 1 [] (pof adA 8) 1 = 0 ∧ addE 9 1 (addQ 9 1 [] (pof adA 8) 1) (pof adA 8) 2 = 0 ∧ addE 9 1 (addQ 9 1 (addQ 9 1 [] (pof adA 8) 1) (pof adA 8) 2) (pof adA 9) 1 = 3 ∧ addQ 9 1 (addQ 9 1 (addQ 9 1 [] (pof adA 8) 1) (pof adA 8) 2) (pof adA 9) 1 = [⟨pof adA 8, 2⟩] ∧ longL [⟨pof adA 8, 2⟩] adA = some ⟨pof adA 8, 2⟩ ∧ addM 9 1 [] (pof adA 8) 1 2 = 10 ∧ addM 9 1 (addQ 9 1 [] (pof adA 8) 1) (pof adA 8) 2 10 = 10 ∧ addM 9 1 (addQ 9 1 (addQ 9 1 [] (pof adA 8) 1) (pof adA 8) 2) (pof adA 9) 1 10 = 10 := by decide +kernel

end Go.Proofs.Ytnepmlhbheaonaa

namespace Go.Proofs.Ytnepmlhbheaonaa
open Go.RowKit Go.Maps
set_option maxRecDepth 100000

set_option maxHeartbeats 2000000 in
theorem awake6_gen (a : Ad) (w : World) (ea : fromv exA false = a) (L1 L2 : List Pr) (x : Pr) (hx : x.v = 2) (q1 : addQ 9 1 [] (pof a 8) 1 = L1) (q2 : addQ 9 1 L1 (pof a 8) 2 = L2) (q3 : addQ 9 1 L2 (pof a 9) 1 = [x]) (h1 : addE 9 1 [] (pof a 8) 1 = 0) (h2 : addE 9 1 L1 (pof a 8) 2 = 0) (h3 : addE 9 1 L2 (pof a 9) 1 = 3) (h4 : longL [x] a = some x)
    (m1 : addM 9 1 [] (pof a 8) 1 2 = 10) (m2 : addM 9 1 L1 (pof a 8) 2 10 = 10) (m3 : addM 9 1 L2 (pof a 9) 1 10 = 10) :
    Calls Try.prog 13 #[] w fun e w' => e = .returned (.bool true) ∧ Below w.heap.size w w' := by
  have hFa := fun (g : Nat) (W : World) hg hc => from_four g 0 4 exA (by intro j _; unfold exA; omega) W hg hc
  rw [ea] at hFa
  have HFa := Lib.hid hFa
  have K1 := Lib.hid h1
  have K2 := Lib.hid h2
  have K3 := Lib.hid h3
  have K4 := Lib.hid h4
  have K5 := Lib.hid hx
  have Q1 : Hid (addQ 9 1 [] (pof a 8) 1 = L1 ∧ addM 9 1 [] (pof a 8) 1 2 = 10) := Lib.hid ⟨q1, m1⟩
  have Q2 : Hid (addQ 9 1 L1 (pof a 8) 2 = L2 ∧ addM 9 1 L1 (pof a 8) 2 10 = 10) := Lib.hid ⟨q2, m2⟩
  have Q3 : Hid (addQ 9 1 L2 (pof a 9) 1 = [x] ∧ addM 9 1 L2 (pof a 9) 1 10 = 10) := Lib.hid ⟨q3, m3⟩
  clear hFa ea h1 h2 h3 h4 hx q1 q2 q3 m1 m2 m3
  go_enter Try.func13, Try.ntmps13
  go_wp2_with fail
  refine (HFa.out w.heap.size _ ?_ ?_).mono ?_
  · simp
  · intro j hj
    have hj' : j = 0 ∨ j = 1 ∨ j = 2 ∨ j = 3 := by omega
    rcases hj' with rfl | rfl | rfl | rfl <;> rw [cell_new (by simp)] <;> rfl
  rintro e w1 ⟨rfl, hw1⟩
  have zw1 := hw1.size
  have bw1 := below_of (w := w) (by go_grown) hw1
  try simp at zw1
  clear hw1
  go_wp2_with fail
  refine (rib_new 9 1 _).mono ?_
  rintro e w2 ⟨r, S2, rfl, hT2, hb2, hS2⟩
  have hR2 : RibS w2 r S2 9 1 [] 2 := hT2
  have hA2 : ABox w2 w1.heap.size a := ABox.keep ⟨by go_simp <;> rfl, by go_simp <;> rfl, by go_simp <;> rfl, by go_size⟩ hb2
  have bB : Below w.heap.size w w2 := Below.trans (by go_grown) (hb2.mono (by simp; omega))
  have n2 : ∀ b, S2 b → w1.heap.size < b := fun b hb => by have := hS2 b hb; simp at this; omega
  have HR := Lib.hid hR2
  have HA := Lib.hid hA2
  have HN := Lib.hid n2
  obtain ⟨pa, pb, pc, pz⟩ := id hA2
  have z2 := bB.size
  clear hT2 hR2 hb2 hS2 hA2 n2
  have yA : w1.heap.size < w2.heap.size := pz
  go_wp2_with fail
  refine (pof_any a 8 _).mono ?_
  rintro e x1 ⟨rfl, hx1⟩
  have bx1 := bB.trans (hx1.mono (by omega))
  have HRx := Lib.hid (HR.out.keep hx1)
  have HAx := Lib.hid (HA.out.keep hx1)
  have yx1 := hx1.size
  clear hx1 HR HA pa pb pc pz
  have cA := rib_add HRx.out (by omega) (pof a 8) 1
  rw [K1.out, Q1.out.1, Q1.out.2] at cA
  have CA := Lib.hid cA
  clear cA
  go_wp2_with fail
  refine CA.out.mono ?_
  rintro e x2 ⟨⟨rfl, S2, g1, g2, g3⟩, -⟩
  have bx2 : Below w.heap.size w x2 := bx1.trans (g2.below (fun b hb => by have := HN.out b hb; omega) (by omega))
  have nn : ∀ b, S2 b → w1.heap.size < b := fun b hb => by
    rcases g3 b hb with e | e
    · exact HN.out b e
    · omega
  have HR2 := Lib.hid g1
  have HA2 := Lib.hid (HAx.out.frm g2 (fun e => by have := HN.out _ e; omega))
  have HN2 := Lib.hid nn
  have yx2 := g2.size
  clear g1 g2 g3 nn HN bB HRx HAx CA
  obtain ⟨w9, rfl⟩ : ∃ w9, w9 = x2 := ⟨_, rfl⟩
  have HR := HR2
  have HA := HA2
  have HN := HN2
  have bB := bx2
  have yB : w1.heap.size < w9.heap.size := by omega
  clear HR2 HA2 HN2 bx2 bx1 yx1 yx2
  obtain ⟨pa, pb, pc, pz⟩ := id HA.out
  go_wp2_with fail
  refine (pof_any a 8 _).mono ?_
  rintro e x1 ⟨rfl, hx1⟩
  have bx1 := bB.trans (hx1.mono (by omega))
  have HRx := Lib.hid (HR.out.keep hx1)
  have HAx := Lib.hid (HA.out.keep hx1)
  have yx1 := hx1.size
  clear hx1 HR HA pa pb pc pz
  have cA := rib_add HRx.out (by omega) (pof a 8) 2
  rw [K2.out, Q2.out.1, Q2.out.2] at cA
  have CA := Lib.hid cA
  clear cA
  go_wp2_with fail
  refine CA.out.mono ?_
  rintro e x2 ⟨⟨rfl, S2, g1, g2, g3⟩, -⟩
  have bx2 : Below w.heap.size w x2 := bx1.trans (g2.below (fun b hb => by have := HN.out b hb; omega) (by omega))
  have nn : ∀ b, S2 b → w1.heap.size < b := fun b hb => by
    rcases g3 b hb with e | e
    · exact HN.out b e
    · omega
  have HR2 := Lib.hid g1
  have HA2 := Lib.hid (HAx.out.frm g2 (fun e => by have := HN.out _ e; omega))
  have HN2 := Lib.hid nn
  have yx2 := g2.size
  clear g1 g2 g3 nn HN bB HRx HAx CA
  obtain ⟨w9, rfl⟩ : ∃ w9, w9 = x2 := ⟨_, rfl⟩
  have HR := HR2
  have HA := HA2
  have HN := HN2
  have bB := bx2
  have yB : w1.heap.size < w9.heap.size := by omega
  clear HR2 HA2 HN2 bx2 bx1 yx1 yx2
  obtain ⟨pa, pb, pc, pz⟩ := id HA.out
  go_wp2_with fail
  refine (pof_any a 9 _).mono ?_
  rintro e x1 ⟨rfl, hx1⟩
  have bx1 := bB.trans (hx1.mono (by omega))
  have HRx := Lib.hid (HR.out.keep hx1)
  have HAx := Lib.hid (HA.out.keep hx1)
  have yx1 := hx1.size
  clear hx1 HR HA pa pb pc pz
  have cA := rib_add HRx.out (by omega) (pof a 9) 1
  rw [K3.out, Q3.out.1, Q3.out.2] at cA
  have CA := Lib.hid cA
  clear cA
  go_wp2_with fail
  refine CA.out.mono ?_
  rintro e x2 ⟨⟨rfl, S2, g1, g2, g3⟩, -⟩
  have bx2 : Below w.heap.size w x2 := bx1.trans (g2.below (fun b hb => by have := HN.out b hb; omega) (by omega))
  have nn : ∀ b, S2 b → w1.heap.size < b := fun b hb => by
    rcases g3 b hb with e | e
    · exact HN.out b e
    · omega
  have HR2 := Lib.hid g1
  have HA2 := Lib.hid (HAx.out.frm g2 (fun e => by have := HN.out _ e; omega))
  have HN2 := Lib.hid nn
  have yx2 := g2.size
  clear g1 g2 g3 nn HN bB HRx HAx CA
  obtain ⟨w9, rfl⟩ : ∃ w9, w9 = x2 := ⟨_, rfl⟩
  have HR := HR2
  have HA := HA2
  have HN := HN2
  have bB := bx2
  have yB : w1.heap.size < w9.heap.size := by omega
  clear HR2 HA2 HN2 bx2 bx1 yx1 yx2
  obtain ⟨pa, pb, pc, pz⟩ := id HA.out
  have cl := rib_longest HR.out a
  unfold OptPost at cl
  rw [K4.out] at cl
  simp only [Option.getD_some, Option.isSome_some] at cl
  rw [K5.out] at cl
  have CL := Lib.hid cl
  clear cl
  go_wp2_with fail
  refine CL.out.mono ?_
  rintro e v5 ⟨rfl, hv5⟩
  have HR5 := Lib.hid (HR.out.keep hv5)
  have b5 := bB.trans (hv5.mono (by omega))
  have z5 := hv5.size
  clear hv5 HR HA pa pb pc CL
  go_wp2_with fail
  refine (rib_dump (HR5.out.keep (by go_grown))).mono ?_
  rintro e v6 ⟨d6, rfl, ho6, hv6⟩
  have b6 : Below w.heap.size w v6 := b5.trans (Below.trans (by go_grown) (hv6.mono (by simp; omega)))
  obtain ⟨A6, c6, rfl, -⟩ := own_val ho6
  clear ho6 hv6
  go_wp2
  go_ret
  exact ⟨rfl, b6⟩
theorem awake6_any (w : World) : Calls Try.prog 13 #[] w fun e w' => e = .returned (.bool true) ∧ Below w.heap.size w w' :=
  awake6_gen adA w exA_from _ _ ⟨pof adA 8, 2⟩ rfl rfl rfl exR.2.2.2.1 exR.1 exR.2.1 exR.2.2.1 exR.2.2.2.2.1 exR.2.2.2.2.2.1 exR.2.2.2.2.2.2.1 exR.2.2.2.2.2.2.2

end Go.Proofs.Ytnepmlhbheaonaa

namespace Go.Proofs.Ytnepmlhbheaonaa
open Go.RowKit Go.Maps
set_option maxRecDepth 100000

set_option maxHeartbeats 2000000 in
theorem rsame_yes (b1 b2 : Nat) (v1 v2 : Value) (l : List Pr) (w : World) (h1 : w.ownsRow b1 37 5 v1 l.length (prv l)) (h2 : w.ownsRow b2 37 5 v2 l.length (prv l)) (hb : l.length ≤ 1000000000) :
    Calls Try.prog 25 #[v1, v2] w fun e w' => e = .returned (.bool true) ∧ Below w.heap.size w w' := by
  have H1 := Lib.hid h1
  have H2 := Lib.hid h2
  obtain ⟨A1, c1, rfl, -⟩ := own_val h1
  obtain ⟨A2, c2, rfl, -⟩ := own_val h2
  clear h1 h2
  go_enter Try.func25, Try.ntmps25
  go_wp2_with fail
  go_loopw [5] (fun i wr => ∃ k : Nat, k ≤ l.length ∧ i = .int .i64 k ∧ Below w.heap.size w wr) (fun i _ => l.length - (intOf i).toNat)
  case atStart => exact ⟨0, Nat.zero_le _, rfl, Below.refl _ _⟩
  case round =>
    obtain ⟨k, hk, rfl, hB⟩ := hrel
    by_cases hlt : k < l.length
    · have hlt' : (k : Int) < (l.length : Int) := by omega
      have hk0 : (0 : Int) ≤ (k : Int) := by omega
      have hk9 : (k : Int) + 1 ≤ 1000000000 := by omega
      obtain ⟨g, cg, eg, -, hg, hcc⟩ := row_cell (own_fresh H1.out hB) rfl hlt
      simp only [Value.slice.injEq, true_and] at eg
      obtain ⟨rfl, rfl⟩ := eg
      obtain ⟨g', cg', eg', -, hg', hcc'⟩ := row_cell (own_fresh H2.out hB) rfl hlt
      simp only [Value.slice.injEq, true_and] at eg'
      obtain ⟨rfl, rfl⟩ := eg'
      have a0 : wr.cell? ⟨g, k * 5, none⟩ = some (.int .u64 (u l[k].p.a.hi)) := hcc 0 (by omega)
      have a1 : wr.cell? ⟨g, k * 5 + 1, none⟩ = some (.int .u64 (u l[k].p.a.lo)) := hcc 1 (by omega)
      have a2 : wr.cell? ⟨g, k * 5 + 2, none⟩ = some (.bool l[k].p.a.v6) := hcc 2 (by omega)
      have a3 : wr.cell? ⟨g, k * 5 + 3, none⟩ = some (.int .i64 l[k].p.n) := hcc 3 (by omega)
      have a4 : wr.cell? ⟨g, k * 5 + 4, none⟩ = some (.int .i64 l[k].v) := hcc 4 (by omega)
      have b0 : wr.cell? ⟨g', k * 5, none⟩ = some (.int .u64 (u l[k].p.a.hi)) := hcc' 0 (by omega)
      have b1 : wr.cell? ⟨g', k * 5 + 1, none⟩ = some (.int .u64 (u l[k].p.a.lo)) := hcc' 1 (by omega)
      have b2 : wr.cell? ⟨g', k * 5 + 2, none⟩ = some (.bool l[k].p.a.v6) := hcc' 2 (by omega)
      have b3 : wr.cell? ⟨g', k * 5 + 3, none⟩ = some (.int .i64 l[k].p.n) := hcc' 3 (by omega)
      have b4 : wr.cell? ⟨g', k * 5 + 4, none⟩ = some (.int .i64 l[k].v) := hcc' 4 (by omega)
      clear hcc hcc'
      generalize l[k] = r at *
      obtain ⟨W, rfl⟩ : ∃ W, W = wr := ⟨_, rfl⟩
      have hz := hB.size
      have A0 := fun x : Later W.heap.size W => (x.cell (p := ⟨g, k * 5, none⟩) hg).trans a0
      have A1 := fun x : Later W.heap.size W => (x.cell (p := ⟨g, k * 5 + 1, none⟩) hg).trans a1
      have A2 := fun x : Later W.heap.size W => (x.cell (p := ⟨g, k * 5 + 2, none⟩) hg).trans a2
      have A3 := fun x : Later W.heap.size W => (x.cell (p := ⟨g, k * 5 + 3, none⟩) hg).trans a3
      have A4 := fun x : Later W.heap.size W => (x.cell (p := ⟨g, k * 5 + 4, none⟩) hg).trans a4
      have B0 := fun x : Later W.heap.size W => (x.cell (p := ⟨g', k * 5, none⟩) hg').trans b0
      have B1 := fun x : Later W.heap.size W => (x.cell (p := ⟨g', k * 5 + 1, none⟩) hg').trans b1
      have B2 := fun x : Later W.heap.size W => (x.cell (p := ⟨g', k * 5 + 2, none⟩) hg').trans b2
      have B3 := fun x : Later W.heap.size W => (x.cell (p := ⟨g', k * 5 + 3, none⟩) hg').trans b3
      have B4 := fun x : Later W.heap.size W => (x.cell (p := ⟨g', k * 5 + 4, none⟩) hg').trans b4
      clear a0 a1 a2 a3 a4 b0 b1 b2 b3 b4
      go_wp2_with fail
      refine region_later W.heap.size (by kernel_rfl) (by kernel_rfl) ?_
      repeat (go_big_quiet_step (fail))
      refine wpQuiet_nil ?_
      intro x
      have hx : Below w.heap.size w x.at := hB.trans (x.below.mono hz)
      clear A0 A1 A2 A3 A4 B0 B1 B2 B3 B4
      generalize x.at = w2 at *
      clear x
      go_wp2_with fail
      refine ⟨⟨k + 1, by omega, by go_num, hx⟩, by simp [intOf]; omega⟩
    · obtain rfl : k = l.length := by omega
      have hlt' : ¬ (l.length : Int) < (l.length : Int) := by omega
      go_wp2
      go_ret
      exact ⟨rfl, hB⟩

theorem i64_and16 (n : Int) : bits .and .i64 n 65535 = n % 65536 := by
  have hm : (BitVec.ofInt 64 65535).toNat = 2 ^ 16 - 1 := by decide
  have key : (BitVec.ofInt 64 n &&& BitVec.ofInt 64 65535).toNat = (n % ((2 ^ 64 : Nat) : Int)).toNat % 2 ^ 16 := by
    rw [BitVec.toNat_and, BitVec.toNat_ofInt, hm, Nat.and_two_pow_sub_one_eq_mod]
  show IntKind.i64.wrap ((BitVec.ofInt 64 n &&& BitVec.ofInt 64 65535).toNat : Nat) = n % 65536
  rw [key, IntKind.wrap_i64]
  omega
theorem i64_and5 (n : Int) : bits .and .i64 n 31 = n % 32 := by
  have hm : (BitVec.ofInt 64 31).toNat = 2 ^ 5 - 1 := by decide
  have key : (BitVec.ofInt 64 n &&& BitVec.ofInt 64 31).toNat = (n % ((2 ^ 64 : Nat) : Int)).toNat % 2 ^ 5 := by
    rw [BitVec.toNat_and, BitVec.toNat_ofInt, hm, Nat.and_two_pow_sub_one_eq_mod]
  show IntKind.i64.wrap ((BitVec.ofInt 64 n &&& BitVec.ofInt 64 31).toNat : Nat) = n % 32
  rw [key, IntKind.wrap_i64]
  omega
theorem i64_and3 (n : Int) : bits .and .i64 n 7 = n % 8 := by
  have hm : (BitVec.ofInt 64 7).toNat = 2 ^ 3 - 1 := by decide
  have key : (BitVec.ofInt 64 n &&& BitVec.ofInt 64 7).toNat = (n % ((2 ^ 64 : Nat) : Int)).toNat % 2 ^ 3 := by
    rw [BitVec.toNat_and, BitVec.toNat_ofInt, hm, Nat.and_two_pow_sub_one_eq_mod]
  show IntKind.i64.wrap ((BitVec.ofInt 64 n &&& BitVec.ofInt 64 7).toNat : Nat) = n % 8
  rw [key, IntKind.wrap_i64]
  omega
theorem own_frm {S : Nat → Prop} {w w' : World} {base : Nat} {e : TypeId} {size n : Nat} {v : Value} {xs : List Value} (h : w.ownsRow base e size v n xs) (hf : Frm S w w') (hn : ∀ b, v.ownBlock = some b → ¬ S b) : w'.ownsRow base e size v n xs := own_block h (fun b hb hl => hf.block b hl (hn b hb))
theorem sub_not {S S' : Nat → Prop} {m b : Nat} (g3 : Sub S S' m) (hb : b < m) (hn : ¬ S b) : ¬ S' b := fun e => by
  rcases g3 b e with h | h
  · exact hn h
  · omega
theorem QBox.frm {S : Nat → Prop} {w w' : World} {b : Nat} {x : Pr} (h : QBox w b x) (hf : Frm S w w') (hn : ¬ S b) : QBox w' b x := by
  obtain ⟨h0, h1, h2, h3, h4, hz⟩ := h
  exact ⟨(hf.cell (p := ⟨b, 0, none⟩) hz hn).trans h0, (hf.cell (p := ⟨b, 1, none⟩) hz hn).trans h1, (hf.cell (p := ⟨b, 2, none⟩) hz hn).trans h2, (hf.cell (p := ⟨b, 3, none⟩) hz hn).trans h3, (hf.cell (p := ⟨b, 4, none⟩) hz hn).trans h4, Nat.lt_of_lt_of_le hz hf.size⟩
theorem QBox.keep {w w' : World} {b : Nat} {x : Pr} (h : QBox w b x) (hf : Below w.heap.size w w') : QBox w' b x := h.frm (frm_of_below (S := fun _ => False) hf) id
theorem put_same {L : List Pr} (hs : Srt L) {x : Pr} (hx : x ∈ L) : putL x.p x.v L = L := by
  have hp := hs.1 x hx
  refine srt_ext (put_srt hs hp) hs (fun y => ?_)
  rw [mem_put hs hp]
  constructor
  · rintro (rfl | ⟨h, _⟩)
    · exact hx
    · exact h
  · intro hy
    by_cases e : y.p = x.p
    · left
      have h1 := lk_some hs hy
      have h2 := lk_some hs hx
      rw [e, h2] at h1
      cases y
      simp_all
    · exact .inr ⟨hy, e⟩
theorem put_back {L : List Pr} (hs : Srt L) {x : Pr} (hx : x ∈ L) : putL x.p x.v (delL x.p L) = L := by
  have hp := hs.1 x hx
  refine srt_ext (put_srt (del_srt hs) hp) hs (fun y => ?_)
  rw [mem_put (del_srt hs) hp, mem_del]
  constructor
  · rintro (rfl | ⟨⟨h, _⟩, _⟩)
    · exact hx
    · exact h
  · intro hy
    by_cases e : y.p = x.p
    · left
      have h1 := lk_some hs hy
      have h2 := lk_some hs hx
      rw [e, h2] at h1
      cases y
      simp_all
    · exact .inr ⟨⟨hy, e⟩, e⟩
theorem add_ok {n h : Int} {L L' : List Pr} {p : Pf} {k : Int} (hp : psane p = true) (hk : 0 ≤ k ∧ k ≤ 65535) (he : putL p k L = L') (hI : Inv n h L') : addE n h L p k = 0 ∧ addQ n h L p k = L' := by
  have h1 : addE n h L p k = 0 := by
    unfold addE fitsB
    rw [if_pos hp, if_pos hk, he]
    have e1 : decide ((L'.length : Int) ≤ n) = true := decide_eq_true hI.few
    have e2 : decide ((unl (hopsL L') : Int) ≤ h) = true := decide_eq_true hI.like
    rw [e1, e2]
    rfl
  refine ⟨h1, ?_⟩
  unfold addQ
  rw [if_pos h1, he]
theorem RibS.inv {w : World} {r : Nat} {S : Nat → Prop} {n h : Int} {L : List Pr} {most : Nat} (H : RibS w r S n h L most) : Inv n h L := by
  obtain ⟨t, m, S0, D, _, hI, _⟩ := H
  exact hI
/-- A route in a box and a row of routes, beside the blocks S. -/
def Beside (w : World) (S : Nat → Prop) (xb : Nat) (x : Pr) (base : Nat) (vd : Value) (L : List Pr) : Prop := QBox w xb x ∧ ¬ S xb ∧ w.ownsRow base 37 5 vd L.length (prv L) ∧ ∀ b, vd.ownBlock = some b → ¬ S b ∧ b < w.heap.size
theorem Beside.frm {w w' : World} {S S' : Nat → Prop} {xb base : Nat} {x : Pr} {vd : Value} {L : List Pr} (h : Beside w S xb x base vd L) (hf : Frm S w w') (g3 : Sub S S' w.heap.size) : Beside w' S' xb x base vd L := by
  obtain ⟨h1, h2, h3, h4⟩ := h
  refine ⟨h1.frm hf h2, sub_not g3 h1.2.2.2.2.2 h2, own_frm h3 hf (fun b hb => (h4 b hb).1), fun b hb => ⟨sub_not g3 (h4 b hb).2 (h4 b hb).1, Nat.lt_of_lt_of_le (h4 b hb).2 hf.size⟩⟩
theorem Beside.keep {w w' : World} {S : Nat → Prop} {xb base : Nat} {x : Pr} {vd : Value} {L : List Pr} (h : Beside w S xb x base vd L) (hb : Below w.heap.size w w') : Beside w' S xb x base vd L := h.frm (frm_of_below hb) (Sub.refl _ _)
theorem ge_sub {S S' : Nat → Prop} {m N : Nat} (h : ∀ b, S b → N ≤ b) (g3 : Sub S S' m) (hm : N ≤ m) : ∀ b, S' b → N ≤ b := fun b hb => by
  rcases g3 b hb with e | e
  · exact h b e
  · omega

end Go.Proofs.Ytnepmlhbheaonaa

namespace Go.Proofs.Ytnepmlhbheaonaa
set_option maxRecDepth 100000
open Go.ChangeShapes Go.WideShapes Go.ChangeAt Go.RowKit Go.Joins Go.Deep

theorem add_plain' (g off j : Nat) : (⟨g, off, none⟩ : Addr).add j = ⟨g, off + j, none⟩ := by unfold Addr.add; split <;> simp_all
def nilAc : Ac := ⟨false, nilP, 0⟩
def pf4 (p : Pf) : List Value := [.int .u64 (u p.a.hi), .int .u64 (u p.a.lo), .bool p.a.v6, .int .i64 p.n]
/-- Prefixes that lie in memory, as a slice says. -/
def RdP (w : World) (A : Option Addr) (ls : List Pf) : Prop :=
  ls ≠ [] → ∃ g off, A = some ⟨g, off, none⟩ ∧ g < w.heap.size ∧ ∀ i, (h : i < ls.length) → w.cell? ⟨g, off + i * 4, none⟩ = some (.int .u64 (u ls[i].a.hi)) ∧ w.cell? ⟨g, off + i * 4 + 1, none⟩ = some (.int .u64 (u ls[i].a.lo)) ∧ w.cell? ⟨g, off + i * 4 + 2, none⟩ = some (.bool ls[i].a.v6) ∧ w.cell? ⟨g, off + i * 4 + 3, none⟩ = some (.int .i64 ls[i].n)
theorem ac_cells {H : Type} {enc : TypeId × Value → H} {W : World} {base n : Nat} {spare : Nat → Bool} {held : Bool} {cs : List Value} {x : DataW H × List MemPlace}
    (hl : cs.length = 6) (h : DataW.trod enc Try.prog W base spare held n 74 cs = some x) : ∃ r : Ac, cs = ac6 r := by
  match cs, hl with
  | [c, c0, c1, c2, c3, c4], _ =>
  obtain ⟨y, y0, y1, n, hx, _, h, h0, h1⟩ := trod_struct3 Try.underlying74 h
  have k0 : Try.prog.cellsOf 26 = 4 := by kernel_rfl
  have k1 : Try.prog.cellsOf 3 = 1 := by kernel_rfl
  have k3 : Try.prog.cellsOf 4 = 1 := by kernel_rfl
  have g : DataW.trod enc Try.prog W base spare held n 4 [c] = some y := by simpa [k3] using h
  have g0 : DataW.trod enc Try.prog W base spare held n 26 [c0, c1, c2, c3] = some y0 := by simpa [k0, k3] using h0
  have g1 : DataW.trod enc Try.prog W base spare held n 3 [c4] = some y1 := by simpa [k0, k1, k3] using h1
  obtain ⟨y2, y3, n2, _, _, h2, h3⟩ := trod_struct2 Try.underlying26 g0
  have k4 : Try.prog.cellsOf 24 = 3 := by kernel_rfl
  have g2 : DataW.trod enc Try.prog W base spare held n2 24 [c0, c1, c2] = some y2 := by simpa [k4] using h2
  have g3 : DataW.trod enc Try.prog W base spare held n2 3 [c3] = some y3 := by simpa [k1] using h3
  obtain ⟨z0, z1, z2, m, hz, _, i0, i1, i2⟩ := trod_struct3 Try.underlying24 g2
  have k2 : Try.prog.cellsOf 22 = 1 := by kernel_rfl
  have j0 : DataW.trod enc Try.prog W base spare held m 22 [c0] = some z0 := by simpa [k2] using i0
  have j1 : DataW.trod enc Try.prog W base spare held m 22 [c1] = some z1 := by simpa [k2] using i1
  have j2 : DataW.trod enc Try.prog W base spare held m 4 [c2] = some z2 := by simpa [k3] using i2
  obtain ⟨x, e, _⟩ := DataW.trod_bool Try.underlying4 g
  obtain ⟨x0, e0, _, w0⟩ := DataW.trod_int Try.underlying22 j0
  obtain ⟨x1, e1, _, w1⟩ := DataW.trod_int Try.underlying22 j1
  obtain ⟨x2, e2, _⟩ := DataW.trod_bool Try.underlying4 j2
  obtain ⟨x3, e3, _, w3⟩ := DataW.trod_int Try.underlying3 g3
  obtain ⟨x4, e4, _, w4⟩ := DataW.trod_int Try.underlying3 g1
  obtain ⟨lo0, hi0⟩ := bounds_u64 w0
  obtain ⟨lo1, hi1⟩ := bounds_u64 w1
  obtain ⟨a0, rfl⟩ := u_of x0 lo0 (by omega)
  obtain ⟨a1, rfl⟩ := u_of x1 lo1 (by omega)
  simp at e e0 e1 e2 e3 e4
  subst e e0 e1 e2 e3 e4
  exact ⟨⟨x, ⟨⟨a0, a1, x2⟩, x3⟩, x4⟩, rfl⟩
theorem open_acs {H : Type} {enc : TypeId × Value → H} {W : World} {base b0 : Nat} {spare : Nat → Bool} {held : Bool} {r : Reach} {v : Value} {d : DataW H} {p : List MemPlace}
    (hv : Value.okWide Try.prog W r b0 66 v) (h : DataW.Trod enc Try.prog W base spare held 66 v d p) (_ : ∀ b, spare b = true) :
    ∃ A c rs, v = .slice A (List.length rs) c ∧ RdA W A rs := by
  obtain ⟨A, len, cap, rfl⟩ := okWide_slice Try.underlying66 hv
  obtain ⟨fuel, hf⟩ := h
  have h5 : Try.prog.cellsOf 74 = 6 := by kernel_rfl
  rcases open_slice Try.underlying66 hf with ⟨hcs, _⟩ | ⟨a, l, c, m, n, D, Pl, hcs, _, hl, hm, hmm, _, hi⟩
  · simp [Value.cells] at hcs
    obtain ⟨rfl, rfl, rfl⟩ := hcs
    exact ⟨none, 0, [], rfl, fun h => absurd rfl h⟩
  · simp [Value.cells] at hcs
    obtain ⟨rfl, rfl, rfl⟩ := hcs
    have hlm : len ≤ m := by rw [hmm]; split <;> omega
    have key : ∀ i, i < len → ∃ r : Ac, ∀ j x, (ac6 r)[j]? = some x → W.cell? (a.add (i * 6 + j)) = some x := by
      intro i hlt
      obtain ⟨cs', hc, ht⟩ := hi i (by omega)
      rw [h5] at hc
      obtain ⟨_, hcl, hat⟩ := World.cells?_some hc
      obtain ⟨r, rfl⟩ := ac_cells hcl ht
      refine ⟨r, fun j x hx => ?_⟩
      have hj : j < 6 := by
        rcases Nat.lt_or_ge j 6 with h1 | h1
        · exact h1
        · rw [List.getElem?_eq_none (by simp [ac6]; omega)] at hx; cases hx
      rw [← Go.Deep.add_add, hat j hj, hx]
    have hch : ∃ f : Nat → Ac, ∀ i, i < len → ∀ j x, (ac6 (f i))[j]? = some x → W.cell? (a.add (i * 6 + j)) = some x :=
      ⟨fun i => if h : i < len then (key i h).choose else nilAc, fun i hlt j x hx => (key i hlt).choose_spec j x (by simpa [hlt] using hx)⟩
    obtain ⟨f, hf2⟩ := hch
    refine ⟨some a, cap, (List.range len).map f, by simp, fun hne => ?_⟩
    have hpos : 0 < len := by
      rcases Nat.eq_zero_or_pos len with h0 | h0
      · rw [h0] at hne; simp at hne
      · exact h0
    obtain ⟨g, off, spot⟩ := a
    have hspot : spot = none := by
      have := hf2 0 hpos 0 _ rfl
      rw [show 0 * 6 + 0 = 0 from rfl] at this
      simpa [Addr.add] using World.cell?_spot this
    subst hspot
    have hcell : ∀ i, i < len → ∀ j x, (ac6 (f i))[j]? = some x → W.cell? ⟨g, off + i * 6 + j, none⟩ = some x := fun i hlt j x hx => by
      have := hf2 i hlt j x hx
      rw [add_plain', ← Nat.add_assoc] at this
      exact this
    refine ⟨g, off, rfl, World.block_lt_of_cell? W ⟨g, off + 0 * 6 + 0, none⟩ (hcell 0 hpos 0 _ rfl), fun i hlt => ?_⟩
    have hlt' : i < len := by simpa using hlt
    have e : ((List.range len).map f)[i] = f i := by simp
    rw [e]
    exact ⟨hcell i hlt' 0 _ rfl, hcell i hlt' 1 _ rfl, hcell i hlt' 2 _ rfl, hcell i hlt' 3 _ rfl, hcell i hlt' 4 _ rfl, hcell i hlt' 5 _ rfl⟩
theorem pf_cells {H : Type} {enc : TypeId × Value → H} {W : World} {base n : Nat} {spare : Nat → Bool} {held : Bool} {cs : List Value} {x : DataW H × List MemPlace}
    (hl : cs.length = 4) (h : DataW.trod enc Try.prog W base spare held n 26 cs = some x) : ∃ r : Pf, cs = pf4 r := by
  match cs, hl with
  | [c0, c1, c2, c3], _ =>
  obtain ⟨y2, y3, n2, _, _, h2, h3⟩ := trod_struct2 Try.underlying26 h
  have k1 : Try.prog.cellsOf 3 = 1 := by kernel_rfl
  have k4 : Try.prog.cellsOf 24 = 3 := by kernel_rfl
  have g2 : DataW.trod enc Try.prog W base spare held n2 24 [c0, c1, c2] = some y2 := by simpa [k4] using h2
  have g3 : DataW.trod enc Try.prog W base spare held n2 3 [c3] = some y3 := by simpa [k1, k4] using h3
  obtain ⟨z0, z1, z2, m, hz, _, i0, i1, i2⟩ := trod_struct3 Try.underlying24 g2
  have k2 : Try.prog.cellsOf 22 = 1 := by kernel_rfl
  have k3 : Try.prog.cellsOf 4 = 1 := by kernel_rfl
  have j0 : DataW.trod enc Try.prog W base spare held m 22 [c0] = some z0 := by simpa [k2] using i0
  have j1 : DataW.trod enc Try.prog W base spare held m 22 [c1] = some z1 := by simpa [k2] using i1
  have j2 : DataW.trod enc Try.prog W base spare held m 4 [c2] = some z2 := by simpa [k3] using i2
  obtain ⟨x0, e0, _, w0⟩ := DataW.trod_int Try.underlying22 j0
  obtain ⟨x1, e1, _, w1⟩ := DataW.trod_int Try.underlying22 j1
  obtain ⟨x2, e2, _⟩ := DataW.trod_bool Try.underlying4 j2
  obtain ⟨x3, e3, _, w3⟩ := DataW.trod_int Try.underlying3 g3
  obtain ⟨lo0, hi0⟩ := bounds_u64 w0
  obtain ⟨lo1, hi1⟩ := bounds_u64 w1
  obtain ⟨a0, rfl⟩ := u_of x0 lo0 (by omega)
  obtain ⟨a1, rfl⟩ := u_of x1 lo1 (by omega)
  simp at e0 e1 e2 e3
  subst e0 e1 e2 e3
  exact ⟨⟨⟨a0, a1, x2⟩, x3⟩, rfl⟩
end Go.Proofs.Ytnepmlhbheaonaa

namespace Go.Proofs.Ytnepmlhbheaonaa
set_option maxRecDepth 100000
open Go.ChangeShapes Go.WideShapes Go.ChangeAt Go.RowKit Go.Joins Go.Deep

theorem ac_cells6 {H : Type} {enc : TypeId × Value → H} {W : World} {base n : Nat} {spare : Nat → Bool} {held : Bool} {cs : List Value} {x : DataW H × List MemPlace}
    (hl : cs.length = 6) (h : DataW.trod enc Try.prog W base spare held n 52 cs = some x) : ∃ r : Ac, cs = ac6 r := by
  match cs, hl with
  | [c, c0, c1, c2, c3, c4], _ =>
  obtain ⟨y, y0, y1, n, hx, _, h, h0, h1⟩ := trod_struct3 Try.underlying52 h
  have k0 : Try.prog.cellsOf 26 = 4 := by kernel_rfl
  have k1 : Try.prog.cellsOf 3 = 1 := by kernel_rfl
  have k3 : Try.prog.cellsOf 4 = 1 := by kernel_rfl
  have g : DataW.trod enc Try.prog W base spare held n 4 [c] = some y := by simpa [k3] using h
  have g0 : DataW.trod enc Try.prog W base spare held n 26 [c0, c1, c2, c3] = some y0 := by simpa [k0, k3] using h0
  have g1 : DataW.trod enc Try.prog W base spare held n 3 [c4] = some y1 := by simpa [k0, k1, k3] using h1
  obtain ⟨y2, y3, n2, _, _, h2, h3⟩ := trod_struct2 Try.underlying26 g0
  have k4 : Try.prog.cellsOf 24 = 3 := by kernel_rfl
  have g2 : DataW.trod enc Try.prog W base spare held n2 24 [c0, c1, c2] = some y2 := by simpa [k4] using h2
  have g3 : DataW.trod enc Try.prog W base spare held n2 3 [c3] = some y3 := by simpa [k1] using h3
  obtain ⟨z0, z1, z2, m, hz, _, i0, i1, i2⟩ := trod_struct3 Try.underlying24 g2
  have k2 : Try.prog.cellsOf 22 = 1 := by kernel_rfl
  have j0 : DataW.trod enc Try.prog W base spare held m 22 [c0] = some z0 := by simpa [k2] using i0
  have j1 : DataW.trod enc Try.prog W base spare held m 22 [c1] = some z1 := by simpa [k2] using i1
  have j2 : DataW.trod enc Try.prog W base spare held m 4 [c2] = some z2 := by simpa [k3] using i2
  obtain ⟨x, e, _⟩ := DataW.trod_bool Try.underlying4 g
  obtain ⟨x0, e0, _, w0⟩ := DataW.trod_int Try.underlying22 j0
  obtain ⟨x1, e1, _, w1⟩ := DataW.trod_int Try.underlying22 j1
  obtain ⟨x2, e2, _⟩ := DataW.trod_bool Try.underlying4 j2
  obtain ⟨x3, e3, _, w3⟩ := DataW.trod_int Try.underlying3 g3
  obtain ⟨x4, e4, _, w4⟩ := DataW.trod_int Try.underlying3 g1
  obtain ⟨lo0, hi0⟩ := bounds_u64 w0
  obtain ⟨lo1, hi1⟩ := bounds_u64 w1
  obtain ⟨a0, rfl⟩ := u_of x0 lo0 (by omega)
  obtain ⟨a1, rfl⟩ := u_of x1 lo1 (by omega)
  simp at e e0 e1 e2 e3 e4
  subst e e0 e1 e2 e3 e4
  exact ⟨⟨x, ⟨⟨a0, a1, x2⟩, x3⟩, x4⟩, rfl⟩
theorem open_acs6 {H : Type} {enc : TypeId × Value → H} {W : World} {base b0 : Nat} {spare : Nat → Bool} {held : Bool} {r : Reach} {v : Value} {d : DataW H} {p : List MemPlace}
    (hv : Value.okWide Try.prog W r b0 50 v) (h : DataW.Trod enc Try.prog W base spare held 50 v d p) (_ : ∀ b, spare b = true) :
    ∃ A c rs, v = .slice A (List.length rs) c ∧ RdA W A rs := by
  obtain ⟨A, len, cap, rfl⟩ := okWide_slice Try.underlying50 hv
  obtain ⟨fuel, hf⟩ := h
  have h5 : Try.prog.cellsOf 52 = 6 := by kernel_rfl
  rcases open_slice Try.underlying50 hf with ⟨hcs, _⟩ | ⟨a, l, c, m, n, D, Pl, hcs, _, hl, hm, hmm, _, hi⟩
  · simp [Value.cells] at hcs
    obtain ⟨rfl, rfl, rfl⟩ := hcs
    exact ⟨none, 0, [], rfl, fun h => absurd rfl h⟩
  · simp [Value.cells] at hcs
    obtain ⟨rfl, rfl, rfl⟩ := hcs
    have hlm : len ≤ m := by rw [hmm]; split <;> omega
    have key : ∀ i, i < len → ∃ r : Ac, ∀ j x, (ac6 r)[j]? = some x → W.cell? (a.add (i * 6 + j)) = some x := by
      intro i hlt
      obtain ⟨cs', hc, ht⟩ := hi i (by omega)
      rw [h5] at hc
      obtain ⟨_, hcl, hat⟩ := World.cells?_some hc
      obtain ⟨r, rfl⟩ := ac_cells6 hcl ht
      refine ⟨r, fun j x hx => ?_⟩
      have hj : j < 6 := by
        rcases Nat.lt_or_ge j 6 with h1 | h1
        · exact h1
        · rw [List.getElem?_eq_none (by simp [ac6]; omega)] at hx; cases hx
      rw [← Go.Deep.add_add, hat j hj, hx]
    have hch : ∃ f : Nat → Ac, ∀ i, i < len → ∀ j x, (ac6 (f i))[j]? = some x → W.cell? (a.add (i * 6 + j)) = some x :=
      ⟨fun i => if h : i < len then (key i h).choose else nilAc, fun i hlt j x hx => (key i hlt).choose_spec j x (by simpa [hlt] using hx)⟩
    obtain ⟨f, hf2⟩ := hch
    refine ⟨some a, cap, (List.range len).map f, by simp, fun hne => ?_⟩
    have hpos : 0 < len := by
      rcases Nat.eq_zero_or_pos len with h0 | h0
      · rw [h0] at hne; simp at hne
      · exact h0
    obtain ⟨g, off, spot⟩ := a
    have hspot : spot = none := by
      have := hf2 0 hpos 0 _ rfl
      rw [show 0 * 6 + 0 = 0 from rfl] at this
      simpa [Addr.add] using World.cell?_spot this
    subst hspot
    have hcell : ∀ i, i < len → ∀ j x, (ac6 (f i))[j]? = some x → W.cell? ⟨g, off + i * 6 + j, none⟩ = some x := fun i hlt j x hx => by
      have := hf2 i hlt j x hx
      rw [add_plain', ← Nat.add_assoc] at this
      exact this
    refine ⟨g, off, rfl, World.block_lt_of_cell? W ⟨g, off + 0 * 6 + 0, none⟩ (hcell 0 hpos 0 _ rfl), fun i hlt => ?_⟩
    have hlt' : i < len := by simpa using hlt
    have e : ((List.range len).map f)[i] = f i := by simp
    rw [e]
    exact ⟨hcell i hlt' 0 _ rfl, hcell i hlt' 1 _ rfl, hcell i hlt' 2 _ rfl, hcell i hlt' 3 _ rfl, hcell i hlt' 4 _ rfl, hcell i hlt' 5 _ rfl⟩

end Go.Proofs.Ytnepmlhbheaonaa
