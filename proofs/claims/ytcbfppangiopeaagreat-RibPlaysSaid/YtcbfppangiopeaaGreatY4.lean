/-
  What Dump, least and Hops of the document's answer for layer 6 return. Condition: the pairs lie where the argument says.
-/
import Derived.Test.YtcbfppangiopeaaGreatY2
import Derived.Test.YtcbfppangiopeaaGreatY1
import Derived.Laws.BitsLemmas
import Derived.Test.YtcbfppangiopeaaGreatY3
import Derived.Test.YtcbfppangiopeaaGreatReg
import Derived.Test.YtcbfppangiopeaaGreatFr
import Derived.OneCell
import Derived.Deep.DeepCutAuto
namespace Go.Proofs.YtcbfppangiopeaaGreat
open Go.RowKit Go.Maps
set_option maxRecDepth 100000

/-- A fresh row of routes. -/
def RoutesPost (w : World) (l : List Pr) (e : Ending) (w' : World) : Prop := ∃ v, e = .returned v ∧ w'.ownsRow w.heap.size 51 5 v l.length (prv l) ∧ Below w.heap.size w w'
/-- At the head of a round of the inner loop: B are there, and j of U. -/
def DumpRel (w : World) (b0 : Nat) (U B : List Pr) (vU : Value) (o i : Value) (wr : World) : Prop :=
  ∃ j N : Nat, N = B.length + j ∧ j ≤ U.length ∧ i = .int .i64 j ∧ wr.ownsRow w.heap.size 51 5 o N (prv (B ++ U.take j)) ∧ wr.ownsRow b0 90 5 vU U.length (prv U) ∧ (∀ b, o.ownBlock = some b → vU.ownBlock ≠ some b) ∧ Below w.heap.size w wr
section
variable {ops : Array Oper} {o : Oper} {a : Act} {w : World} {Q : Exit → Act → World → Prop}
theorem wpList_five1g {E SL : TypeId} (F : Five E SL) {rest : List Oper} (hgd : o.guard = none) (s x : Operand) (ho : o.op = .call { callee := .builtin .append, args := #[s, x], argTypes := #[SL, SL] }) (base : Nat) (v : Value) (n : Nat) (l : List Pr) (hs : a.eval s = v)
    (hown : w.ownsRow base E 5 v n (prv l)) (g : Nat) (r : Pr) (hx : a.eval x = .slice (some ⟨g, 0, none⟩) 1 1) (hg : w.heap[g]? = some (.cells (pr5 r).toArray E (0, 0))) (hb : n ≤ 1000000000) (hbase : base ≤ w.heap.size)
    (h : ∀ g' cap w', w'.ownsRow base E 5 (.slice (some ⟨g', 0, none⟩) (n + 1) cap) (n + 1) (prv (l ++ [r])) → w.grownBy w' v.ownBlock → (v.ownBlock = some g' ∨ g' = w.heap.size) → wpList Tryz.prog ops Q rest (a.put o.dst (.slice (some ⟨g', 0, none⟩) (n + 1) cap)) w') : wpList Tryz.prog ops Q (o :: rest) a w := by
  obtain ⟨i0, hi0, hz0, hz1, hz2⟩ := info_parts F.info
  refine wpList_append_lies w hgd s x _ ho base E i0 _ 5 40 F.sl hi0 hz0 hz1 hz2 rfl (by omega) v n _ hs hown ⟨g, 0, none⟩ 1 1 (pr5 r) hx rfl (World.news_of_block (cs := (pr5 r).toArray) hg) (pr5_cell _) (by omega) (by simp only [maxLen]; omega) (by omega) hbase _ rfl ?_
  intro g' cap w' h1 h2 h3 _
  refine h g' cap w' ?_ h2 h3
  rw [prv_append, prv_one]
  exact h1
end
theorem take_one' (l : List Pr) {k : Nat} (h : k < l.length) : l.take (k + 1) = l.take k ++ [l[k]] := List.take_succ_eq_append_getElem h
theorem own_ge' {w : World} {base : Nat} {e : TypeId} {size n : Nat} {v : Value} {xs : List Value} (h : w.ownsRow base e size v n xs) {b : Nat} (hb : v.ownBlock = some b) : base ≤ b ∧ b < w.heap.size := h.lt b hb

@[simp] theorem idx_bools0 (a b : Bool) (w : World) : (Instr.index 94 (.agg #[.bool a, .bool b]) (.int .i64 0)).run Tryz.prog w = .ok (.bool a) w := by
  have hs : (Tryz.prog.info? 4).map (·.size) = some 1 := by kernel_rfl
  obtain ⟨i, hi, h1⟩ := Option.map_eq_some_iff.1 hs
  simp [Instr.index, run_underlying Tryz.underlying94, sizeOf, typeInfo, hi, h1, asIntOf, part, go_sem]
@[simp] theorem idx_bools1 (a b : Bool) (w : World) : (Instr.index 94 (.agg #[.bool a, .bool b]) (.int .i64 1)).run Tryz.prog w = .ok (.bool b) w := by
  have hs : (Tryz.prog.info? 4).map (·.size) = some 1 := by kernel_rfl
  obtain ⟨i, hi, h1⟩ := Option.map_eq_some_iff.1 hs
  simp [Instr.index, run_underlying Tryz.underlying94, sizeOf, typeInfo, hi, h1, asIntOf, part, go_sem]
@[simp] theorem bool_cells (h : 4 < Tryz.prog.types.size) : (Tryz.prog.types[4]'h).size = 1 := by
  have hs : (Tryz.prog.types[4]?).map (·.size) = some 1 := by kernel_rfl
  rw [Array.getElem?_eq_getElem h] at hs
  simpa using hs
theorem dump_next {w wr w3 w4 : World} {b0 j N g' cap : Nat} {U B : List Pr} {vU vo : Value} {y : Pr} {obj : Obj} (hN : N = B.length + j) (hjl : j < U.length) (hy : U[j] = y) (hO : wr.ownsRow w.heap.size 51 5 vo N (prv (B ++ U.take j))) (hU : wr.ownsRow b0 90 5 vU U.length (prv U)) (hne : ∀ b, vo.ownBlock = some b → vU.ownBlock ≠ some b) (hB : Below w.heap.size w wr) (hb : Below wr.heap.size wr w3)
    (ho4 : w4.ownsRow w.heap.size 51 5 (.slice (some ⟨g', 0, none⟩) (N + 1) cap) (N + 1) (prv (B ++ U.take j ++ [y]))) (hg4 : (w3.alloc obj).grownBy w4 vo.ownBlock) (hor : vo.ownBlock = some g' ∨ g' = (w3.alloc obj).heap.size) :
    DumpRel w b0 U B vU (.slice (some ⟨g', 0, none⟩) (N + 1) cap) (.int .i64 ((j : Int) + 1)) w4 := by
  have hlt : ∀ b, vU.ownBlock = some b → b < wr.heap.size := fun b hb' => (hU.lt b hb').2
  have hz3 := hb.size
  have hza : (w3.alloc obj).heap.size = w3.heap.size + 1 := by simp
  refine ⟨j + 1, N + 1, by omega, hjl, by simp, ?_, ?_, ?_, ?_⟩
  · rw [take_one' U hjl, hy, ← List.append_assoc]
    exact ho4
  · refine own_block hU (fun b hb' hl => ?_)
    rw [hg4.block b (by omega) (fun e => hne b e.symm hb'), Below.heap_alloc _ _ b (by omega), hb.block b hl]
  · intro b hb'
    have e : b = g' := by simpa [Value.ownBlock] using hb'.symm
    subst e
    rcases hor with e | e
    · exact hne _ e
    · intro e2
      have := hlt _ e2
      omega
  · have h1 : Below w.heap.size w w3 := hB.trans (hb.mono hB.size)
    have h2 := h1.alloc h1.size obj
    exact h2.grown hg4 h2.size (fun k hk => (hO.lt k hk).1)

set_option maxHeartbeats 2000000 in
/-- The inner loop's contract is walked within Dump. -/
theorem rib_dump {w : World} {r : Nat} {S : Nat → Prop} {n h : Int} {L : List Pr} {most : Nat} (H : RibS w r S n h L most) : Calls Tryz.prog 14 #[.pointer (some ⟨r, 0, none⟩)] w (RoutesPost w L) := by
  obtain ⟨t, m, S0, D, HA, hI, rfl⟩ := H
  have hln : L.length ≤ 4096 := by have := hI.few; have := hI.n0; omega
  have hs := HA.tree.srt
  have hae := all_eq hs
  have hl4 := List.length_filter_le (fun x : Pr => pcov root4 x.p) L
  have hl6 := List.length_filter_le (fun x : Pr => pcov root6 x.p) L
  obtain ⟨L4, hL4⟩ : ∃ l, (L.filter fun x => pcov root4 x.p) = l := ⟨_, rfl⟩
  obtain ⟨L6, hL6⟩ : ∃ l, (L.filter fun x => pcov root6 x.p) = l := ⟨_, rfl⟩
  have c4 : ∀ W, RibA W r t m S0 D n h L most (hopsL L) → Calls Tryz.prog 44 #[.pointer (some ⟨t, 0, none⟩), .agg #[.int .u64 0, .int .u64 0, .bool false, .int .i64 0]] W (ListPost W L4) := fun W hA => by
    have := trie_under hA.tree root4
    rw [hL4] at this
    exact this
  have c6 : ∀ W, RibA W r t m S0 D n h L most (hopsL L) → Calls Tryz.prog 44 #[.pointer (some ⟨t, 0, none⟩), .agg #[.int .u64 0, .int .u64 0, .bool true, .int .i64 0]] W (ListPost W L6) := fun W hA => by
    have := trie_under hA.tree root6
    rw [hL6] at this
    exact this
  rw [hL4] at hae hl4
  rw [hL6] at hae hl6
  have HAA := Lib.hid HA
  have C4 := Lib.hid c4
  have C6 := Lib.hid c6
  have HE := Lib.hid hae
  have hsum : L4.length + L6.length = L.length := by rw [← hae, List.length_append]
  have HSUM := Lib.hid hsum
  clear HA hI hs hae hL4 hL6 c4 c6 hsum
  go_enter Tryz.func14, Tryz.ntmps14
  go_wp2_with fail
  refine wp_loop_rounds 3 ?_
  rw [rounds_succ]
  go_wp2_with fail
  refine (routes_any HAA.out).mono ?_
  rintro e w1 ⟨rfl, rfl⟩
  go_wp2_with fail
  refine (C4.out _ HAA.out).mono ?_
  rintro e w2 ⟨v2, rfl, ho2, hw2⟩
  have HO2 := Lib.hid ho2
  have HA2 := Lib.hid (HAA.out.keep hw2)
  obtain ⟨A2, d2, rfl, -⟩ := own_val ho2
  clear ho2
  go_wp2_with fail
  go_loopw [3, 19] (fun o i wr => DumpRel w w.heap.size L4 [] (.slice A2 L4.length d2) o i wr) (fun _ i _ => L4.length - (intOf i).toNat)
  case atStart => exact ⟨0, 0, rfl, Nat.zero_le _, rfl, World.ownsRow_nil _ _ _ _, HO2.out, (fun b hb => by cases hb), hw2⟩
  case round =>
    obtain ⟨j, N, hN, hj, rfl, hown, hU, hne, hB⟩ := hrel
    have HO := Lib.hid hown
    have hN9 : N ≤ 1000000 := by (try simp only [List.length_nil] at hN); omega
    have HN := Lib.hid hN
    clear hN
    have HU := Lib.hid hU
    have HNE := Lib.hid hne
    obtain ⟨A5, c5, rfl, -⟩ := own_val hown
    have hz := hB.size
    clear hown hU hne
    by_cases hjl : j < L4.length
    · obtain ⟨g, cg, eg, -, zg, hcc⟩ := row_cell HU.out rfl hjl
      simp only [Value.slice.injEq, true_and] at eg
      obtain ⟨rfl, rfl⟩ := eg
      have m0 : wr.cell? ⟨g, j * 5, none⟩ = some (.int .u64 (u L4[j].p.a.hi)) := hcc 0 (by omega)
      have m1 : wr.cell? ⟨g, j * 5 + 1, none⟩ = some (.int .u64 (u L4[j].p.a.lo)) := hcc 1 (by omega)
      have m2 : wr.cell? ⟨g, j * 5 + 2, none⟩ = some (.bool L4[j].p.a.v6) := hcc 2 (by omega)
      have m3 : wr.cell? ⟨g, j * 5 + 3, none⟩ = some (.int .i64 L4[j].p.n) := hcc 3 (by omega)
      have m4 : wr.cell? ⟨g, j * 5 + 4, none⟩ = some (.int .i64 L4[j].v) := hcc 4 (by omega)
      obtain ⟨y, hy⟩ : ∃ y, L4[j] = y := ⟨_, rfl⟩
      rw [hy] at m0 m1 m2 m3 m4
      have HY := Lib.hid hy
      have hgz : ¬ g = wr.heap.size := by omega
      clear hcc hy
      go_wp2_with fail
      refine (route_any y _).mono ?_
      rintro e w3 ⟨rfl, hw3⟩
      have bb : Below wr.heap.size wr w3 := below_of (by go_grown) hw3
      have HO3 := Lib.hid (own_fresh HO.out bb)
      have z3 := bb.size
      clear hw3 m0 m1 m2 m3 m4
      go_wp2_with (
        at_builtin
        refine wpList_five1g five_route rfl (.tmp 23) (.tmp 26) rfl w.heap.size _ N ([] ++ L4.take j) (by rfl) (HO3.out.alloc _) w3.heap.size y (by rfl) (heap_alloc_new w3 _) (by omega) (by simp; omega) ?_
        intro g' cap w4 ho4 hg4 hor
        have HD := Lib.hid (dump_next HN.out hjl HY.out HO.out HU.out HNE.out hB bb ho4 hg4 hor)
        clear ho4 hg4 hor
        )
      go_roundw
      case rel =>
        have := HD.out
        exact this
      case measure => simp [intOf]; omega
    · obtain rfl : j = L4.length := by omega
      have e1 := HO.out
      rw [List.take_length, List.nil_append] at e1
      have HE1 := Lib.hid e1
      have hN4 : N = L4.length := by have := HN.out; simpa using this
      have HN4 := Lib.hid hN4
      have HA3 := Lib.hid (HAA.out.keep hB)
      have t1 : decide ((L4.length : Int) < (L4.length : Int)) = false := by simp
      clear e1 hN4 HO HU HNE HN HA2 HO2 hw2
      go_wp2_with fail
      rw [rounds_succ]
      go_wp2_with fail
      refine (routes_any HA3.out).mono ?_
      rintro e w3 ⟨rfl, rfl⟩
      go_wp2_with fail
      refine (C6.out _ HA3.out).mono ?_
      rintro e w6 ⟨v6, rfl, ho6, hw6⟩
      have HO6 := Lib.hid ho6
      have HE6 := Lib.hid (own_fresh HE1.out hw6)
      have b6 := hB.trans (hw6.mono hz)
      have hne6 : ∀ b, (Value.slice A5 N c5).ownBlock = some b → v6.ownBlock ≠ some b := fun b hb e => by
        have h1 := (HE1.out.lt b hb).2
        have h2 := (ho6.lt b e).1
        omega
      obtain ⟨A6, d6, rfl, -⟩ := own_val ho6
      have HNE6 := Lib.hid hne6
      obtain ⟨w3, rfl⟩ : ∃ w3, w3 = wr := ⟨_, rfl⟩
      clear ho6 hne6 hw6 HE1
      go_wp2_with fail
      go_loopw [3, 19] (fun o i wr => DumpRel w w3.heap.size L6 L4 (.slice A6 L6.length d6) o i wr) (fun _ i _ => L6.length - (intOf i).toNat)
      case atStart => exact ⟨0, N, HN4.out, Nat.zero_le _, rfl, by rw [List.take_zero, List.append_nil]; exact HE6.out, HO6.out, HNE6.out, b6⟩
      case round =>
        clear hB hz
        obtain ⟨j, N, hN, hj, rfl, hown, hU, hne, hB⟩ := hrel
        have HO := Lib.hid hown
        have hN9 : N ≤ 1000000 := by (try simp only [List.length_nil] at hN); omega
        have HN := Lib.hid hN
        clear hN
        have HU := Lib.hid hU
        have HNE := Lib.hid hne
        obtain ⟨A5, c5, rfl, -⟩ := own_val hown
        have hz := hB.size
        clear hown hU hne
        by_cases hjl : j < L6.length
        · obtain ⟨g, cg, eg, -, zg, hcc⟩ := row_cell HU.out rfl hjl
          simp only [Value.slice.injEq, true_and] at eg
          obtain ⟨rfl, rfl⟩ := eg
          have m0 : wr.cell? ⟨g, j * 5, none⟩ = some (.int .u64 (u L6[j].p.a.hi)) := hcc 0 (by omega)
          have m1 : wr.cell? ⟨g, j * 5 + 1, none⟩ = some (.int .u64 (u L6[j].p.a.lo)) := hcc 1 (by omega)
          have m2 : wr.cell? ⟨g, j * 5 + 2, none⟩ = some (.bool L6[j].p.a.v6) := hcc 2 (by omega)
          have m3 : wr.cell? ⟨g, j * 5 + 3, none⟩ = some (.int .i64 L6[j].p.n) := hcc 3 (by omega)
          have m4 : wr.cell? ⟨g, j * 5 + 4, none⟩ = some (.int .i64 L6[j].v) := hcc 4 (by omega)
          obtain ⟨y, hy⟩ : ∃ y, L6[j] = y := ⟨_, rfl⟩
          rw [hy] at m0 m1 m2 m3 m4
          have HY := Lib.hid hy
          have hgz : ¬ g = wr.heap.size := by omega
          clear hcc hy
          go_wp2_with fail
          refine (route_any y _).mono ?_
          rintro e w3 ⟨rfl, hw3⟩
          have bb : Below wr.heap.size wr w3 := below_of (by go_grown) hw3
          have HO3 := Lib.hid (own_fresh HO.out bb)
          have z3 := bb.size
          clear hw3 m0 m1 m2 m3 m4
          go_wp2_with (
            at_builtin
            refine wpList_five1g five_route rfl (.tmp 23) (.tmp 26) rfl w.heap.size _ N (L4 ++ L6.take j) (by rfl) (HO3.out.alloc _) w3.heap.size y (by rfl) (heap_alloc_new w3 _) (by omega) (by simp; omega) ?_
            intro g' cap w4 ho4 hg4 hor
            have HD := Lib.hid (dump_next HN.out hjl HY.out HO.out HU.out HNE.out hB bb ho4 hg4 hor)
            clear ho4 hg4 hor
            )
          go_roundw
          case rel =>
            have := HD.out
            exact this
          case measure => simp [intOf]; omega
        · obtain rfl : j = L6.length := by omega
          have e1 := HO.out
          rw [List.take_length, HE.out] at e1
          have hN6 : N = L.length := by rw [HN.out, HSUM.out]
          rw [hN6] at e1
          have HE1 := Lib.hid e1
          have HN6 := Lib.hid hN6
          have t2 : decide ((L6.length : Int) < (L6.length : Int)) = false := by simp
          clear e1 hN6 HO HU HNE HN
          go_wp2_with fail
          rw [rounds_succ]
          go_wp2
          go_ret
          exact ⟨_, (by rw [← HN6.out]; rfl), HE1.out, hB⟩

end Go.Proofs.YtcbfppangiopeaaGreat

namespace Go.Proofs.YtcbfppangiopeaaGreat
open Go.RowKit Go.Maps
set_option maxRecDepth 100000

def rdoQ (n h : Int) (x : Ac) (L : List Pr) : List Pr := if x.out = true then delQ x.p L else addQ n h L x.p x.v
def rdoM (n h : Int) (x : Ac) (L : List Pr) (most : Nat) : Nat := if x.out = true then most else addM n h L x.p x.v most
def rdoE (n h : Int) (x : Ac) (L : List Pr) : Int := if x.out = true then delE x.p L else addE n h L x.p x.v
section
variable {w : World} {r : Nat} {S : Nat → Prop} {n h : Int} {L : List Pr} {most : Nat}
theorem RibPost.wide {w0 w' : World} {v : Value} {e : Ending} (hb : Below w0.heap.size w0 w) (hp : RibPost r S w n h L most v e w') : RibPost r S w0 n h L most v e w' := by
  obtain ⟨he, S', h1, h2, h3⟩ := hp
  exact ⟨he, S', h1, (frm_of_below (S := S) hb).trans h2 (Sub.refl _ _), fun b hb' => (h3 b hb').imp id (fun h => by have := hb.size; omega)⟩
set_option maxHeartbeats 1000000 in
theorem rdo_any (H : RibS w r S n h L most) (hb : most + 128 ≤ 1000000000) (x : Ac) :
    Calls Tryz.prog 7 #[.pointer (some ⟨r, 0, none⟩), .agg #[.bool x.out, .int .u64 (u x.p.a.hi), .int .u64 (u x.p.a.lo), .bool x.p.a.v6, .int .i64 x.p.n, .int .i64 x.v]] w (fun e w' => RibPost r S w n h (rdoQ n h x L) (rdoM n h x L most) (.int .i64 (rdoE n h x L)) e w' ∧ rdoM n h x L most ≤ most + 128) := by
  have HT := Lib.hid H

  clear H
  cases hx : x.out
  · have HD : Hid (rdoQ n h x L = addQ n h L x.p x.v ∧ rdoM n h x L most = addM n h L x.p x.v most ∧ rdoE n h x L = addE n h L x.p x.v) := by unfold rdoQ rdoM rdoE; rw [hx]; exact ⟨rfl, rfl, rfl⟩
    clear hx
    go_enter Tryz.func7, Tryz.ntmps7
    go_wp2_with fail
    have hbw : Below w.heap.size w (w.alloc (.cells #[.bool false, .int .u64 (u x.p.a.hi), .int .u64 (u x.p.a.lo), .bool x.p.a.v6, .int .i64 x.p.n, .int .i64 x.v] 40)) := by go_grown
    refine (rib_add (HT.out.keep hbw) hb x.p x.v).mono ?_
    rintro e w1 ⟨hp, g4⟩
    obtain ⟨rfl, -⟩ := id hp
    have HP := Lib.hid (hp.wide hbw)
    clear hp
    go_wp2
    go_ret
    rw [HD.out.1, HD.out.2.1, HD.out.2.2]
    exact ⟨HP.out, g4⟩
  · have HD : Hid (rdoQ n h x L = delQ x.p L ∧ rdoM n h x L most = most ∧ rdoE n h x L = delE x.p L) := by unfold rdoQ rdoM rdoE; rw [hx]; exact ⟨rfl, rfl, rfl⟩
    clear hx
    go_enter Tryz.func7, Tryz.ntmps7
    go_wp2_with fail
    have hbw : Below w.heap.size w (w.alloc (.cells #[.bool true, .int .u64 (u x.p.a.hi), .int .u64 (u x.p.a.lo), .bool x.p.a.v6, .int .i64 x.p.n, .int .i64 x.v] 40)) := by go_grown
    refine (rib_withdraw (HT.out.keep hbw) hb x.p).mono ?_
    rintro e w1 hp
    obtain ⟨rfl, -⟩ := id hp
    have HP := Lib.hid (hp.wide hbw)
    clear hp
    go_wp2
    go_ret
    rw [HD.out.1, HD.out.2.1, HD.out.2.2]
    exact ⟨HP.out, Nat.le_add_right _ _⟩
end
/-- What is there behind the first k things. -/
def rplays (n h : Int) : List Ac → List Pr × Nat
  | [] => ([], 2)
  | x :: r => (rdoQ n h x (rplays n h r).1, rdoM n h x (rplays n h r).1 (rplays n h r).2)
def rplayK (n h : Int) (ls : List Ac) (k : Nat) : List Pr × Nat := rplays n h (ls.take k).reverse
theorem rplayK_succ (n h : Int) (ls : List Ac) (k : Nat) (hk : k < ls.length) : rplayK n h ls (k + 1) = (rdoQ n h ls[k] (rplayK n h ls k).1, rdoM n h ls[k] (rplayK n h ls k).1 (rplayK n h ls k).2) := by
  unfold rplayK
  rw [List.take_succ_eq_append_getElem hk, List.reverse_append]
  rfl
/-- At the head of a round of things done: the routes are what the first k of them leave; their blocks are from N on. -/
def RPlayRel (w : World) (N r : Nat) (n h : Int) (ls : List Ac) (P : World → Prop) (i : Value) (wr : World) : Prop :=
  ∃ (k : Nat) (S : Nat → Prop), k ≤ ls.length ∧ i = .int .i64 k ∧ RibS wr r S n h (rplayK n h ls k).1 (rplayK n h ls k).2 ∧ (rplayK n h ls k).2 ≤ 2 + 128 * k ∧ (∀ b, S b → N ≤ b) ∧ Below w.heap.size w wr ∧ N ≤ wr.heap.size ∧ P wr
theorem rplay_next {w0 wr w2 : World} {N r : Nat} {n h : Int} {ls : List Ac} {k : Nat} {S S2 : Nat → Prop} (hk : k < ls.length) (hN : ∀ b, S b → N ≤ b) (hz : N ≤ wr.heap.size) (hN0 : w0.heap.size ≤ N) (hB : Below w0.heap.size w0 wr)
    (g1 : RibS w2 r S2 n h (rdoQ n h ls[k] (rplayK n h ls k).1) (rdoM n h ls[k] (rplayK n h ls k).1 (rplayK n h ls k).2)) (g2 : Frm S wr w2) (g3 : Sub S S2 wr.heap.size) (g4 : rdoM n h ls[k] (rplayK n h ls k).1 (rplayK n h ls k).2 ≤ (rplayK n h ls k).2 + 128) (hm : (rplayK n h ls k).2 ≤ 2 + 128 * k) :
    RibS w2 r S2 n h (rplayK n h ls (k + 1)).1 (rplayK n h ls (k + 1)).2 ∧ (rplayK n h ls (k + 1)).2 ≤ 2 + 128 * (k + 1) ∧ (∀ b, S2 b → N ≤ b) ∧ Below w0.heap.size w0 w2 ∧ N ≤ w2.heap.size ∧ Below N wr w2 := by
  have hbn : Below N wr w2 := g2.below hN hz
  rw [rplayK_succ n h ls k hk]
  refine ⟨g1, by simp only; omega, fun b hb => ?_, hB.trans (hbn.mono hN0), Nat.le_trans hz g2.size, hbn⟩
  rcases g3 b hb with e | e
  · exact hN b e
  · omega

theorem exR : addE 9 1 [] (pof adA 8) 1 = 0 ∧ addE 9 1 (addQ 9 1 [] (pof adA 8) 1) (pof adA 8) 2 = 0 ∧ addE 9 1 (addQ 9 1 (addQ 9 1 [] (pof adA 8) 1) (pof adA 8) 2) (pof adA 9) 1 = 3 ∧ addQ 9 1 (addQ 9 1 (addQ 9 1 [] (pof adA 8) 1) (pof adA 8) 2) (pof adA 9) 1 = [⟨pof adA 8, 2⟩] ∧ longL [⟨pof adA 8, 2⟩] adA = some ⟨pof adA 8, 2⟩ ∧ addM 9 1 [] (pof adA 8) 1 2 = 10 ∧ addM 9 1 (addQ 9 1 [] (pof adA 8) 1) (pof adA 8) 2 10 = 10 ∧ addM 9 1 (addQ 9 1 (addQ 9 1 [] (pof adA 8) 1) (pof adA 8) 2) (pof adA 9) 1 10 = 10 := by decide +kernel

end Go.Proofs.YtcbfppangiopeaaGreat

namespace Go.Proofs.YtcbfppangiopeaaGreat
open Go.RowKit Go.Maps
set_option maxRecDepth 100000

set_option maxHeartbeats 2000000 in
theorem awake6_gen (a : Ad) (w : World) (ea : fromv exA false = a) (L1 L2 : List Pr) (x : Pr) (hx : x.v = 2) (q1 : addQ 9 1 [] (pof a 8) 1 = L1) (q2 : addQ 9 1 L1 (pof a 8) 2 = L2) (q3 : addQ 9 1 L2 (pof a 9) 1 = [x]) (h1 : addE 9 1 [] (pof a 8) 1 = 0) (h2 : addE 9 1 L1 (pof a 8) 2 = 0) (h3 : addE 9 1 L2 (pof a 9) 1 = 3) (h4 : longL [x] a = some x)
    (m1 : addM 9 1 [] (pof a 8) 1 2 = 10) (m2 : addM 9 1 L1 (pof a 8) 2 10 = 10) (m3 : addM 9 1 L2 (pof a 9) 1 10 = 10) :
    Calls Tryz.prog 4 #[] w fun e w' => e = .returned (.bool true) ∧ Below w.heap.size w w' := by
  have hFa := fun (g : Nat) (W : World) hg hc => from_four g 0 4 exA (by intro j _; unfold exA; omega) W hg hc
  rw [ea] at hFa
  have HFa := Lib.hid hFa
  have K1 := Lib.hid h1
  have K2 := Lib.hid h2
  have K3 := Lib.hid h3
  have K4 := Lib.hid h4
  have K5 := Lib.hid hx
  have Q1 : Hid (addQ 9 1 [] (pof a 8) 1 = L1 ∧ addM 9 1 [] (pof a 8) 1 2 = 10) := Lib.hid ⟨q1, m1⟩
  have Q2 : Hid (addQ 9 1 L1 (pof a 8) 2 = L2 ∧ addM 9 1 L1 (pof a 8) 2 10 = 10) := Lib.hid ⟨q2, m2⟩
  have Q3 : Hid (addQ 9 1 L2 (pof a 9) 1 = [x] ∧ addM 9 1 L2 (pof a 9) 1 10 = 10) := Lib.hid ⟨q3, m3⟩
  clear hFa ea h1 h2 h3 h4 hx q1 q2 q3 m1 m2 m3
  go_enter Tryz.func4, Tryz.ntmps4
  go_wp2_with fail
  refine (HFa.out w.heap.size _ ?_ ?_).mono ?_
  · simp
  · intro j hj
    have hj' : j = 0 ∨ j = 1 ∨ j = 2 ∨ j = 3 := by omega
    rcases hj' with rfl | rfl | rfl | rfl <;> rw [cell_new (by simp)] <;> rfl
  rintro e w1 ⟨rfl, hw1⟩
  have zw1 := hw1.size
  have bw1 := below_of (w := w) (by go_grown) hw1
  try simp at zw1
  clear hw1
  go_wp2_with fail
  refine (rib_new 9 1 _).mono ?_
  rintro e w2 ⟨r, S2, rfl, hT2, hb2, hS2⟩
  have hR2 : RibS w2 r S2 9 1 [] 2 := hT2
  have hA2 : ABox w2 w1.heap.size a := ABox.keep ⟨by go_simp <;> rfl, by go_simp <;> rfl, by go_simp <;> rfl, by go_size⟩ hb2
  have bB : Below w.heap.size w w2 := Below.trans (by go_grown) (hb2.mono (by simp; omega))
  have n2 : ∀ b, S2 b → w1.heap.size < b := fun b hb => by have := hS2 b hb; simp at this; omega
  have HR := Lib.hid hR2
  have HA := Lib.hid hA2
  have HN := Lib.hid n2
  obtain ⟨pa, pb, pc, pz⟩ := id hA2
  have z2 := bB.size
  clear hT2 hR2 hb2 hS2 hA2 n2
  have yA : w1.heap.size < w2.heap.size := pz
  go_wp2_with fail
  refine (pof_any a 8 _).mono ?_
  rintro e x1 ⟨rfl, hx1⟩
  have bx1 := bB.trans (hx1.mono (by omega))
  have HRx := Lib.hid (HR.out.keep hx1)
  have HAx := Lib.hid (HA.out.keep hx1)
  have yx1 := hx1.size
  clear hx1 HR HA pa pb pc pz
  have cA := rib_add HRx.out (by omega) (pof a 8) 1
  rw [K1.out, Q1.out.1, Q1.out.2] at cA
  have CA := Lib.hid cA
  clear cA
  go_wp2_with fail
  refine CA.out.mono ?_
  rintro e x2 ⟨⟨rfl, S2, g1, g2, g3⟩, -⟩
  have bx2 : Below w.heap.size w x2 := bx1.trans (g2.below (fun b hb => by have := HN.out b hb; omega) (by omega))
  have nn : ∀ b, S2 b → w1.heap.size < b := fun b hb => by
    rcases g3 b hb with e | e
    · exact HN.out b e
    · omega
  have HR2 := Lib.hid g1
  have HA2 := Lib.hid (HAx.out.frm g2 (fun e => by have := HN.out _ e; omega))
  have HN2 := Lib.hid nn
  have yx2 := g2.size
  clear g1 g2 g3 nn HN bB HRx HAx CA
  obtain ⟨w9, rfl⟩ : ∃ w9, w9 = x2 := ⟨_, rfl⟩
  have HR := HR2
  have HA := HA2
  have HN := HN2
  have bB := bx2
  have yB : w1.heap.size < w9.heap.size := by omega
  clear HR2 HA2 HN2 bx2 bx1 yx1 yx2
  obtain ⟨pa, pb, pc, pz⟩ := id HA.out
  go_wp2_with fail
  refine (pof_any a 8 _).mono ?_
  rintro e x1 ⟨rfl, hx1⟩
  have bx1 := bB.trans (hx1.mono (by omega))
  have HRx := Lib.hid (HR.out.keep hx1)
  have HAx := Lib.hid (HA.out.keep hx1)
  have yx1 := hx1.size
  clear hx1 HR HA pa pb pc pz
  have cA := rib_add HRx.out (by omega) (pof a 8) 2
  rw [K2.out, Q2.out.1, Q2.out.2] at cA
  have CA := Lib.hid cA
  clear cA
  go_wp2_with fail
  refine CA.out.mono ?_
  rintro e x2 ⟨⟨rfl, S2, g1, g2, g3⟩, -⟩
  have bx2 : Below w.heap.size w x2 := bx1.trans (g2.below (fun b hb => by have := HN.out b hb; omega) (by omega))
  have nn : ∀ b, S2 b → w1.heap.size < b := fun b hb => by
    rcases g3 b hb with e | e
    · exact HN.out b e
    · omega
  have HR2 := Lib.hid g1
  have HA2 := Lib.hid (HAx.out.frm g2 (fun e => by have := HN.out _ e; omega))
  have HN2 := Lib.hid nn
  have yx2 := g2.size
  clear g1 g2 g3 nn HN bB HRx HAx CA
  obtain ⟨w9, rfl⟩ : ∃ w9, w9 = x2 := ⟨_, rfl⟩
  have HR := HR2
  have HA := HA2
  have HN := HN2
  have bB := bx2
  have yB : w1.heap.size < w9.heap.size := by omega
  clear HR2 HA2 HN2 bx2 bx1 yx1 yx2
  obtain ⟨pa, pb, pc, pz⟩ := id HA.out
  go_wp2_with fail
  refine (pof_any a 9 _).mono ?_
  rintro e x1 ⟨rfl, hx1⟩
  have bx1 := bB.trans (hx1.mono (by omega))
  have HRx := Lib.hid (HR.out.keep hx1)
  have HAx := Lib.hid (HA.out.keep hx1)
  have yx1 := hx1.size
  clear hx1 HR HA pa pb pc pz
  have cA := rib_add HRx.out (by omega) (pof a 9) 1
  rw [K3.out, Q3.out.1, Q3.out.2] at cA
  have CA := Lib.hid cA
  clear cA
  go_wp2_with fail
  refine CA.out.mono ?_
  rintro e x2 ⟨⟨rfl, S2, g1, g2, g3⟩, -⟩
  have bx2 : Below w.heap.size w x2 := bx1.trans (g2.below (fun b hb => by have := HN.out b hb; omega) (by omega))
  have nn : ∀ b, S2 b → w1.heap.size < b := fun b hb => by
    rcases g3 b hb with e | e
    · exact HN.out b e
    · omega
  have HR2 := Lib.hid g1
  have HA2 := Lib.hid (HAx.out.frm g2 (fun e => by have := HN.out _ e; omega))
  have HN2 := Lib.hid nn
  have yx2 := g2.size
  clear g1 g2 g3 nn HN bB HRx HAx CA
  obtain ⟨w9, rfl⟩ : ∃ w9, w9 = x2 := ⟨_, rfl⟩
  have HR := HR2
  have HA := HA2
  have HN := HN2
  have bB := bx2
  have yB : w1.heap.size < w9.heap.size := by omega
  clear HR2 HA2 HN2 bx2 bx1 yx1 yx2
  obtain ⟨pa, pb, pc, pz⟩ := id HA.out
  have cl := rib_longest HR.out a
  unfold OptPost at cl
  rw [K4.out] at cl
  simp only [Option.getD_some, Option.isSome_some] at cl
  rw [K5.out] at cl
  have CL := Lib.hid cl
  clear cl
  go_wp2_with fail
  refine CL.out.mono ?_
  rintro e v5 ⟨rfl, hv5⟩
  have HR5 := Lib.hid (HR.out.keep hv5)
  have b5 := bB.trans (hv5.mono (by omega))
  have z5 := hv5.size
  clear hv5 HR HA pa pb pc CL
  go_wp2_with fail
  refine (rib_dump (HR5.out.keep (by go_grown))).mono ?_
  rintro e v6 ⟨d6, rfl, ho6, hv6⟩
  have b6 : Below w.heap.size w v6 := b5.trans (Below.trans (by go_grown) (hv6.mono (by simp; omega)))
  obtain ⟨A6, c6, rfl, -⟩ := own_val ho6
  clear ho6 hv6
  go_wp2
  go_ret
  exact ⟨rfl, b6⟩
theorem awake6_any (w : World) : Calls Tryz.prog 4 #[] w fun e w' => e = .returned (.bool true) ∧ Below w.heap.size w w' :=
  awake6_gen adA w exA_from _ _ ⟨pof adA 8, 2⟩ rfl rfl rfl exR.2.2.2.1 exR.1 exR.2.1 exR.2.2.1 exR.2.2.2.2.1 exR.2.2.2.2.2.1 exR.2.2.2.2.2.2.1 exR.2.2.2.2.2.2.2

end Go.Proofs.YtcbfppangiopeaaGreat

namespace Go.Proofs.YtcbfppangiopeaaGreat
open Go.RowKit Go.Maps
set_option maxRecDepth 100000

set_option maxHeartbeats 2000000 in
theorem rsame_yes (b1 b2 : Nat) (v1 v2 : Value) (l : List Pr) (w : World) (h1 : w.ownsRow b1 51 5 v1 l.length (prv l)) (h2 : w.ownsRow b2 51 5 v2 l.length (prv l)) (hb : l.length ≤ 1000000000) :
    Calls Tryz.prog 27 #[v1, v2] w fun e w' => e = .returned (.bool true) ∧ Below w.heap.size w w' := by
  have H1 := Lib.hid h1
  have H2 := Lib.hid h2
  obtain ⟨A1, c1, rfl, -⟩ := own_val h1
  obtain ⟨A2, c2, rfl, -⟩ := own_val h2
  clear h1 h2
  go_enter Tryz.func27, Tryz.ntmps27
  go_wp2_with fail
  go_loopw [5] (fun i wr => ∃ k : Nat, k ≤ l.length ∧ i = .int .i64 k ∧ Below w.heap.size w wr) (fun i _ => l.length - (intOf i).toNat)
  case atStart => exact ⟨0, Nat.zero_le _, rfl, Below.refl _ _⟩
  case round =>
    obtain ⟨k, hk, rfl, hB⟩ := hrel
    by_cases hlt : k < l.length
    · have hlt' : (k : Int) < (l.length : Int) := by omega
      have hk0 : (0 : Int) ≤ (k : Int) := by omega
      have hk9 : (k : Int) + 1 ≤ 1000000000 := by omega
      obtain ⟨g, cg, eg, -, hg, hcc⟩ := row_cell (own_fresh H1.out hB) rfl hlt
      simp only [Value.slice.injEq, true_and] at eg
      obtain ⟨rfl, rfl⟩ := eg
      obtain ⟨g', cg', eg', -, hg', hcc'⟩ := row_cell (own_fresh H2.out hB) rfl hlt
      simp only [Value.slice.injEq, true_and] at eg'
      obtain ⟨rfl, rfl⟩ := eg'
      have a0 : wr.cell? ⟨g, k * 5, none⟩ = some (.int .u64 (u l[k].p.a.hi)) := hcc 0 (by omega)
      have a1 : wr.cell? ⟨g, k * 5 + 1, none⟩ = some (.int .u64 (u l[k].p.a.lo)) := hcc 1 (by omega)
      have a2 : wr.cell? ⟨g, k * 5 + 2, none⟩ = some (.bool l[k].p.a.v6) := hcc 2 (by omega)
      have a3 : wr.cell? ⟨g, k * 5 + 3, none⟩ = some (.int .i64 l[k].p.n) := hcc 3 (by omega)
      have a4 : wr.cell? ⟨g, k * 5 + 4, none⟩ = some (.int .i64 l[k].v) := hcc 4 (by omega)
      have b0 : wr.cell? ⟨g', k * 5, none⟩ = some (.int .u64 (u l[k].p.a.hi)) := hcc' 0 (by omega)
      have b1 : wr.cell? ⟨g', k * 5 + 1, none⟩ = some (.int .u64 (u l[k].p.a.lo)) := hcc' 1 (by omega)
      have b2 : wr.cell? ⟨g', k * 5 + 2, none⟩ = some (.bool l[k].p.a.v6) := hcc' 2 (by omega)
      have b3 : wr.cell? ⟨g', k * 5 + 3, none⟩ = some (.int .i64 l[k].p.n) := hcc' 3 (by omega)
      have b4 : wr.cell? ⟨g', k * 5 + 4, none⟩ = some (.int .i64 l[k].v) := hcc' 4 (by omega)
      clear hcc hcc'
      generalize l[k] = r at *
      obtain ⟨W, rfl⟩ : ∃ W, W = wr := ⟨_, rfl⟩
      have hz := hB.size
      have A0 := fun x : Later W.heap.size W => (x.cell (p := ⟨g, k * 5, none⟩) hg).trans a0
      have A1 := fun x : Later W.heap.size W => (x.cell (p := ⟨g, k * 5 + 1, none⟩) hg).trans a1
      have A2 := fun x : Later W.heap.size W => (x.cell (p := ⟨g, k * 5 + 2, none⟩) hg).trans a2
      have A3 := fun x : Later W.heap.size W => (x.cell (p := ⟨g, k * 5 + 3, none⟩) hg).trans a3
      have A4 := fun x : Later W.heap.size W => (x.cell (p := ⟨g, k * 5 + 4, none⟩) hg).trans a4
      have B0 := fun x : Later W.heap.size W => (x.cell (p := ⟨g', k * 5, none⟩) hg').trans b0
      have B1 := fun x : Later W.heap.size W => (x.cell (p := ⟨g', k * 5 + 1, none⟩) hg').trans b1
      have B2 := fun x : Later W.heap.size W => (x.cell (p := ⟨g', k * 5 + 2, none⟩) hg').trans b2
      have B3 := fun x : Later W.heap.size W => (x.cell (p := ⟨g', k * 5 + 3, none⟩) hg').trans b3
      have B4 := fun x : Later W.heap.size W => (x.cell (p := ⟨g', k * 5 + 4, none⟩) hg').trans b4
      clear a0 a1 a2 a3 a4 b0 b1 b2 b3 b4
      go_wp2_with fail
      refine region_later W.heap.size (by kernel_rfl) (by kernel_rfl) ?_
      repeat (go_big_quiet_step (fail))
      refine wpQuiet_nil ?_
      intro x
      have hx : Below w.heap.size w x.at := hB.trans (x.below.mono hz)
      clear A0 A1 A2 A3 A4 B0 B1 B2 B3 B4
      generalize x.at = w2 at *
      clear x
      go_wp2_with fail
      refine ⟨⟨k + 1, by omega, by go_num, hx⟩, by simp [intOf]; omega⟩
    · obtain rfl : k = l.length := by omega
      have hlt' : ¬ (l.length : Int) < (l.length : Int) := by omega
      go_wp2
      go_ret
      exact ⟨rfl, hB⟩

theorem QBox.frm {S : Nat → Prop} {w w' : World} {b : Nat} {x : Pr} (h : QBox w b x) (hf : Frm S w w') (hn : ¬ S b) : QBox w' b x := by
  obtain ⟨h0, h1, h2, h3, h4, hz⟩ := h
  exact ⟨(hf.cell (p := ⟨b, 0, none⟩) hz hn).trans h0, (hf.cell (p := ⟨b, 1, none⟩) hz hn).trans h1, (hf.cell (p := ⟨b, 2, none⟩) hz hn).trans h2, (hf.cell (p := ⟨b, 3, none⟩) hz hn).trans h3, (hf.cell (p := ⟨b, 4, none⟩) hz hn).trans h4, Nat.lt_of_lt_of_le hz hf.size⟩
theorem QBox.keep {w w' : World} {b : Nat} {x : Pr} (h : QBox w b x) (hf : Below w.heap.size w w') : QBox w' b x := h.frm (frm_of_below (S := fun _ => False) hf) id
theorem put_same {L : List Pr} (hs : Srt L) {x : Pr} (hx : x ∈ L) : putL x.p x.v L = L := by
  have hp := hs.1 x hx
  refine srt_ext (put_srt hs hp) hs (fun y => ?_)
  rw [mem_put hs hp]
  constructor
  · rintro (rfl | ⟨h, _⟩)
    · exact hx
    · exact h
  · intro hy
    by_cases e : y.p = x.p
    · left
      have h1 := lk_some hs hy
      have h2 := lk_some hs hx
      rw [e, h2] at h1
      cases y
      simp_all
    · exact .inr ⟨hy, e⟩
theorem put_back {L : List Pr} (hs : Srt L) {x : Pr} (hx : x ∈ L) : putL x.p x.v (delL x.p L) = L := by
  have hp := hs.1 x hx
  refine srt_ext (put_srt (del_srt hs) hp) hs (fun y => ?_)
  rw [mem_put (del_srt hs) hp, mem_del]
  constructor
  · rintro (rfl | ⟨⟨h, _⟩, _⟩)
    · exact hx
    · exact h
  · intro hy
    by_cases e : y.p = x.p
    · left
      have h1 := lk_some hs hy
      have h2 := lk_some hs hx
      rw [e, h2] at h1
      cases y
      simp_all
    · exact .inr ⟨⟨hy, e⟩, e⟩
theorem add_ok {n h : Int} {L L' : List Pr} {p : Pf} {k : Int} (hp : psane p = true) (hk : 0 ≤ k ∧ k ≤ 65535) (he : putL p k L = L') (hI : Inv n h L') : addE n h L p k = 0 ∧ addQ n h L p k = L' := by
  have h1 : addE n h L p k = 0 := by
    unfold addE fitsB
    rw [if_pos hp, if_pos hk, he]
    have e1 : decide ((L'.length : Int) ≤ n) = true := decide_eq_true hI.few
    have e2 : decide ((unl (hopsL L') : Int) ≤ h) = true := decide_eq_true hI.like
    rw [e1, e2]
    rfl
  refine ⟨h1, ?_⟩
  unfold addQ
  rw [if_pos h1, he]
theorem RibS.inv {w : World} {r : Nat} {S : Nat → Prop} {n h : Int} {L : List Pr} {most : Nat} (H : RibS w r S n h L most) : Inv n h L := by
  obtain ⟨t, m, S0, D, _, hI, _⟩ := H
  exact hI
/-- A route in a box and a row of routes, beside the blocks S. -/
def Beside (w : World) (S : Nat → Prop) (xb : Nat) (x : Pr) (base : Nat) (vd : Value) (L : List Pr) : Prop := QBox w xb x ∧ ¬ S xb ∧ w.ownsRow base 51 5 vd L.length (prv L) ∧ ∀ b, vd.ownBlock = some b → ¬ S b ∧ b < w.heap.size
theorem Beside.frm {w w' : World} {S S' : Nat → Prop} {xb base : Nat} {x : Pr} {vd : Value} {L : List Pr} (h : Beside w S xb x base vd L) (hf : Frm S w w') (g3 : Sub S S' w.heap.size) : Beside w' S' xb x base vd L := by
  obtain ⟨h1, h2, h3, h4⟩ := h
  refine ⟨h1.frm hf h2, sub_not g3 h1.2.2.2.2.2 h2, own_frm h3 hf (fun b hb => (h4 b hb).1), fun b hb => ⟨sub_not g3 (h4 b hb).2 (h4 b hb).1, Nat.lt_of_lt_of_le (h4 b hb).2 hf.size⟩⟩
theorem Beside.keep {w w' : World} {S : Nat → Prop} {xb base : Nat} {x : Pr} {vd : Value} {L : List Pr} (h : Beside w S xb x base vd L) (hb : Below w.heap.size w w') : Beside w' S xb x base vd L := h.frm (frm_of_below hb) (Sub.refl _ _)
theorem ge_sub {S S' : Nat → Prop} {m N : Nat} (h : ∀ b, S b → N ≤ b) (g3 : Sub S S' m) (hm : N ≤ m) : ∀ b, S' b → N ≤ b := fun b hb => by
  rcases g3 b hb with e | e
  · exact h b e
  · omega

end Go.Proofs.YtcbfppangiopeaaGreat

namespace Go.Proofs.YtcbfppangiopeaaGreat
open Go.RowKit Go.Maps
set_option maxRecDepth 100000

/-- Whether one of the first k contains an address and is y. -/
def fndK (L : List Pr) (a : Ad) (y : Pr) (k : Nat) : Bool := (L.take k).any fun x => pcon x.p a && decide (x = y)
theorem fndK_succ (L : List Pr) (a : Ad) (y : Pr) {k : Nat} (h : k < L.length) : fndK L a y (k + 1) = (fndK L a y k || (pcon L[k].p a && decide (L[k] = y))) := by
  unfold fndK
  rw [List.take_succ_eq_append_getElem h, List.any_append]
  simp
theorem fnd_all {L : List Pr} {a : Ad} : fndK L a ((longL L a).getD nilPr) L.length = (longL L a).isSome := by
  unfold fndK
  rw [List.take_length]
  cases hl : longL L a with
  | none =>
    simp only [Option.isSome_none]
    rw [List.any_eq_false]
    intro x hx hc
    simp only [Bool.and_eq_true] at hc
    unfold longL at hl
    rw [List.getLast?_eq_none_iff] at hl
    have : x ∈ L.filter fun x => pcon x.p a := List.mem_filter.2 ⟨hx, hc.1⟩
    rw [hl] at this
    cases this
  | some y =>
    obtain ⟨h1, h2⟩ := long_mem hl
    simp only [Option.isSome_some, Option.getD_some]
    exact List.any_eq_true.2 ⟨y, h1, by simp [h2]⟩

end Go.Proofs.YtcbfppangiopeaaGreat

namespace Go.Proofs.YtcbfppangiopeaaGreat
open Go.RowKit Go.Maps
set_option maxRecDepth 100000

/-- What there would be then, of the first k. -/
def thenK (L : List Pr) (x : Pr) (k : Nat) : List Pr := x :: (L.take k).filter fun y => decide (y.p ≠ x.p)
theorem thenK_succ (L : List Pr) (x : Pr) {k : Nat} (h : k < L.length) : thenK L x (k + 1) = thenK L x k ++ if L[k].p = x.p then [] else [L[k]] := by
  unfold thenK
  rw [List.take_succ_eq_append_getElem h, List.filter_append, List.cons_append]
  congr 2
  by_cases e : L[k].p = x.p
  · simp [e]
  · simp [e]
theorem thenK_len (L : List Pr) (x : Pr) (k : Nat) : (thenK L x k).length ≤ L.length + 1 := by
  unfold thenK
  have h1 := List.length_filter_le (fun y : Pr => decide (y.p ≠ x.p)) (L.take k)
  rw [List.length_take] at h1
  simp only [List.length_cons]
  omega
theorem then_perm {L : List Pr} {x : Pr} (h : Srt L) (hp : psane x.p = true) : (putL x.p x.v L).Perm (thenK L x L.length) := by
  unfold thenK
  rw [List.take_length]
  exact put_perm h hp
theorem then_len {L : List Pr} {x : Pr} (h : Srt L) (hp : psane x.p = true) : (putL x.p x.v L).length = (thenK L x L.length).length := (then_perm h hp).length_eq
theorem then_unl {L : List Pr} {x : Pr} (h : Srt L) (hp : psane x.p = true) : unl (hopsL (putL x.p x.v L)) = unlK (thenK L x L.length) (thenK L x L.length).length := by
  unfold unlK
  rw [List.take_length]
  exact unl_perm ((then_perm h hp).map _)
/-- What was put governs itself. -/
theorem gov_put {L : List Pr} {x : Pr} (h : Srt L) (hp : psane x.p = true) : govL (putL x.p x.v L) x.p = some x := by
  unfold govL
  have hs := put_srt (v := x.v) h hp
  have hm : x ∈ (putL x.p x.v L).filter fun y => pcov y.p x.p := List.mem_filter.2 ⟨(mem_put h hp x).2 (.inl rfl), cov_refl _ hp⟩
  have hsf := filter_srt hs (fun y => pcov y.p x.p)
  obtain ⟨i, hi, hx⟩ := List.getElem_of_mem hm
  generalize hF : ((putL x.p x.v L).filter fun y => pcov y.p x.p) = F at hi hx hsf
  have hne : F ≠ [] := fun e => by rw [e] at hi; cases hi
  rw [List.getLast?_eq_some_getLast hne, List.getLast_eq_getElem]
  rcases Nat.lt_or_ge i (F.length - 1) with e | e
  · exfalso
    have h1 := List.pairwise_iff_getElem.1 hsf.2 i (F.length - 1) hi (by omega) e
    have h2 : F[F.length - 1] ∈ ((putL x.p x.v L).filter fun y => pcov y.p x.p) := by rw [hF]; exact List.getElem_mem _
    have h3 := cov_cmp (List.mem_filter.1 h2).2
    rw [hx] at h1
    have h4 := pcmp_anti x.p F[F.length - 1].p
    omega
  · have : F.length - 1 = i := by omega
    simp only [this, hx]
def goodB (x : Pr) : Bool := psane x.p && (decide (0 ≤ x.v) && decide (x.v ≤ 65535))
end Go.Proofs.YtcbfppangiopeaaGreat

namespace Go.Proofs.YtcbfppangiopeaaGreat
open Go.RowKit Go.Maps
set_option maxRecDepth 100000

theorem filter_all {α : Type} {p : α → Bool} {l : List α} (h : ∀ x ∈ l, p x = true) : l.filter p = l := List.filter_eq_self.2 h
theorem put_permF {p : Pf} {v : Int} (hp : psane p = true) : ∀ {L : List Pr}, Srt L → (putL p v L).Perm (L.filter (fun x => decide (x.p ≠ p)) ++ [⟨p, v⟩]) := by
  intro L
  induction L with
  | nil => intro _; exact List.Perm.refl _
  | cons x l ih =>
    intro h
    obtain ⟨h1, h2, h3⟩ := srt_cons.1 h
    have hself : pcmp p p = 0 := (pcmp_eq hp hp).2 rfl
    unfold putL
    split
    · rename_i hc
      have hne : x.p ≠ p := fun e => by rw [e, hself] at hc; omega
      rw [List.filter_cons_of_pos (by simpa using hne)]
      exact (ih h3).cons x
    · rename_i hc
      split
      · rename_i hz
        have he : x.p = p := (pcmp_eq h1 hp).1 hz
        rw [List.filter_cons_of_neg (by simpa using he), filter_all (fun y hy => by
          have := h2 y hy
          rw [he] at this
          simp only [decide_eq_true_eq]
          intro e
          rw [e, hself] at this
          omega)]
        exact (List.perm_append_comm (l₁ := [⟨p, v⟩]) (l₂ := l))
      · rename_i hz
        have hall : ∀ y ∈ x :: l, decide (y.p ≠ p) = true := fun y hy => by
          simp only [decide_eq_true_eq]
          rcases List.mem_cons.1 hy with e | e
          · rw [e]
            intro e
            rw [e, hself] at hz
            exact hz rfl
          · intro e2
            have := h2 y e
            rw [e2] at this
            exact hc this
        rw [filter_all hall]
        exact (List.perm_append_comm (l₁ := [⟨p, v⟩]) (l₂ := x :: l))
theorem delq_filter {p : Pf} {L : List Pr} (he : delE p L = 0) : delQ p L = L.filter (fun y => decide (y.p ≠ p)) := by
  unfold delE at he
  unfold delQ
  by_cases e : psane p = true
  · rw [if_pos e]
    rfl
  · rw [if_neg e] at he
    cases he
theorem lk_noneF {p : Pf} : ∀ {L : List Pr}, lk L p = none → ∀ y ∈ L, y.p ≠ p := by
  intro L
  induction L with
  | nil => intro _ y hy; cases hy
  | cons x l ih =>
    intro h y hy
    rw [lk_cons] at h
    split at h
    · cases h
    · rename_i hne
      rcases List.mem_cons.1 hy with e | e
      · rw [e]
        exact hne
      · exact ih h y e
theorem delq_stay {p : Pf} {L : List Pr} (he : delE p L ≠ 0) : delQ p L = L := by
  unfold delE at he
  unfold delQ
  by_cases e : psane p = true
  · rw [if_pos e] at he ⊢
    by_cases e2 : (lk L p).isSome = true
    · rw [if_pos e2] at he
      exact absurd rfl he
    · have hn : lk L p = none := by
        cases h : lk L p with
        | none => rfl
        | some v => rw [h] at e2; exact absurd rfl e2
      exact filter_all fun y hy => by
        simp only [decide_eq_true_eq]
        exact lk_noneF hn y hy
  · rw [if_neg e]
def lastS (x : Ac) (T : List Pr) : List Pr := T.filter (fun y => decide (y.p ≠ x.p)) ++ (if x.out = true then [] else [⟨x.p, x.v⟩])
theorem last_step {n h : Int} {L T : List Pr} {x : Ac} (hs : Srt L) (hp : T.Perm L) (he : rdoE n h x L = 0) : (lastS x T).Perm (rdoQ n h x L) := by
  unfold lastS rdoQ
  unfold rdoE at he
  cases hx : x.out
  · rw [hx] at he
    simp only [Bool.false_eq_true, if_false] at he ⊢
    have hq : addQ n h L x.p x.v = putL x.p x.v L := by unfold addQ; rw [if_pos he]
    have hsane : psane x.p = true := by
      unfold addE at he
      by_cases e : psane x.p = true
      · exact e
      · rw [if_neg e] at he
        cases he
    rw [hq]
    exact ((hp.filter _).append_right _).trans (put_permF hsane hs).symm
  · rw [hx] at he
    simp only [if_true] at he ⊢
    rw [List.append_nil]
    have hq : delQ x.p L = L.filter (fun y => decide (y.p ≠ x.p)) := delq_filter he
    rw [hq]
    exact hp.filter _
theorem last_stay {n h : Int} {L : List Pr} {x : Ac} (he : rdoE n h x L ≠ 0) : rdoQ n h x L = L := by
  unfold rdoE at he
  unfold rdoQ
  cases hx : x.out
  · rw [hx] at he
    simp only [Bool.false_eq_true, if_false] at he ⊢
    unfold addQ
    rw [if_neg he]
  · rw [hx] at he
    simp only [if_true] at he ⊢
    exact delq_stay he
end Go.Proofs.YtcbfppangiopeaaGreat

namespace Go.Proofs.YtcbfppangiopeaaGreat
open Go.RowKit

section
variable {P : Program} {ops : Array Oper} {md : Region.Mode} {C : World → Prop}

def sink1B (md : Region.Mode) (ops : Array Oper) (n : Nat) : Bool :=
  (List.range n).all fun i => i == 0 || (List.range (n + 1)).any fun j => decide (i < j) && Region.waitsFor md ops j i
structure Inv1 (md : Region.Mode) (ops : Array Oper) (n : Nat) (listed : Array Bool) : Prop where
  head : HeadInv md ops n listed
  zero : listed.getD 0 false = true
theorem Inv1.set {n i : Nat} {listed : Array Bool} (inv : Inv1 md ops n listed) (hi : i ∈ Region.ready md ops listed) (hin : i < n) : Inv1 md ops n (listed.setIfInBounds i true) :=
  ⟨inv.head.set hi hin, getD_set_true inv.zero⟩
theorem waits1 {n : Nat} {listed : Array Bool} (hs : sink1B md ops n = true) (hc : Region.chainB md ops n = true) (inv : Inv1 md ops n listed) :
    ∀ (d i : Nat), n - i = d → i < n → listed.getD i true = false → ∀ t, n ≤ t → t ∉ Region.ready md ops listed := by
  intro d
  induction d using Nat.strongRecOn with
  | _ d ih =>
    intro i hd hi hun t ht hr
    obtain ⟨_, ot, hot, hall⟩ := mem_ready.1 hr
    have htlt : t < ops.size := (Array.getElem?_eq_some_iff.1 hot).1
    have hi0 : i ≠ 0 := by
      intro e
      subst e
      have := inv.zero
      rw [getD_both hun] at this
      cases this
    by_cases htn : t = n
    · subst htn
      have h1 := List.all_eq_true.1 hs i (List.mem_range.2 hi)
      simp only [Bool.or_eq_true, beq_iff_eq] at h1
      obtain ⟨j, hj, hj2⟩ := List.any_eq_true.1 (h1.resolve_left hi0)
      simp only [Bool.and_eq_true, decide_eq_true_eq] at hj2
      obtain ⟨oj, hoj, e, he, hb, hon⟩ := Region.waitsFor_spec hj2.2
      have hjle : j ≤ t := by have := List.mem_range.1 hj; omega
      by_cases hjt : j = t
      · subst hjt
        have : oj = ot := Option.some.inj (hoj.symm.trans hot)
        subst this
        have h2 := hall e he hb
        rw [hon, getD_both hun] at h2
        cases h2
      · cases hl : listed.getD j false with
        | true =>
          have h2 := inv.head.closed j oj hoj hl e he hb
          rw [hon, getD_both hun] at h2
          cases h2
        | false =>
          have hjs : j < listed.size := by rw [inv.head.size]; omega
          exact ih (t - j) (by omega) j rfl (by omega) (getD_in hjs hl) t (Nat.le_refl _) hr
    · have h1 := List.all_eq_true.1 hc t (List.mem_range.2 htlt)
      simp only [Bool.or_eq_true, decide_eq_true_eq] at h1
      rcases h1 with h1 | h1
      · omega
      · obtain ⟨o', ho', e, he, hb, hon⟩ := Region.waitsFor_spec h1
        have : o' = ot := Option.some.inj (ho'.symm.trans hot)
        subst this
        have h2 := hall e he hb
        rw [hon, getD_both (inv.head.tail (t - 1) (by omega) (by omega))] at h2
        cases h2

theorem AnyHead.first1 {n i : Nat} {oi : Oper} {v : Value} {L : Array Bool → Act → Prop} (hi : ops[i]? = some oi) (hsel : ∀ (j : Nat) (o : Oper) cs b, ops[j]? = some o → o.op ≠ .select cs b)
    (hs : sink1B md ops n = true) (hc : Region.chainB md ops n = true) (hin : i < n) (hL : ∀ done a, L done a → ∀ j ∈ Region.ready md ops done, n ≤ j) (f : Nat) :
    ∀ (done : Array Bool) (a : Act), Inv1 md ops n done →
      (∀ j oj, ops[j]? = some oj → j ≠ i → done.getD j true = false → (∀ e ∈ oj.after, Region.binds md e = true → e.on ≠ i) → oi.apart ops oj = true) →
      i ∈ Region.ready md ops done → YieldsIn P ops C oi v a → AnyHead P md ops C n L f (done.setIfInBounds i true) (a.put oi.dst v) → AnyHead P md ops C n L (f + 1) done a := by
  induction f with
  | zero =>
    intro done a inv _ hr hy H
    refine ⟨List.ne_nil_of_mem hr, fun j hj => ?_⟩
    rcases Nat.lt_or_ge j n with hjn | hjn
    · refine ⟨hjn, ?_⟩
      by_cases e : j = i
      · subst e
        exact hy.qOp hi H
      · exact absurd (hL _ _ H j (ready_mono hj e)) (by omega)
    · exact absurd hj (waits1 hs hc inv _ i rfl hin (mem_ready.1 hr).1 j hjn)
  | succ f ih =>
    intro done a inv hfree hr hy H
    refine ⟨List.ne_nil_of_mem hr, fun j hj => ?_⟩
    rcases Nat.lt_or_ge j n with hjn | hjn
    · refine ⟨hjn, ?_⟩
      by_cases e : j = i
      · subst e
        exact hy.qOp hi H
      · obtain ⟨hjun, oj, hoj, hall⟩ := mem_ready.1 hj
        have hno : ∀ e ∈ oj.after, Region.binds md e = true → e.on ≠ i := by
          intro e he hb heq
          have h1 := hall e he hb
          rw [heq, getD_both (mem_ready.1 hr).1] at h1
          cases h1
        have h2 := qOp_put hoj (hfree j oj hoj e hjun hno) (fun cs b => hsel i oi cs b hi) (fun cs b => hsel j oj cs b hoj) hy (H.2 j (ready_mono hj e)).2
        refine qOp_mono (fun a' h3 => ih _ a' (inv.set hj hjn) (fun k ok hk hki hun hno' => hfree k ok hk hki ?_ hno') (ready_mono hr (Ne.symm e)) h3.1 ?_) h2
        · by_cases hjk : j = k
          · subst hjk; exact hjun
          · rwa [getD_set_ne true hjk] at hun
        · rw [Array.setIfInBounds_comm _ _ e]
          exact h3.2
    · exact absurd hj (waits1 hs hc inv _ i rfl hin (mem_ready.1 hr).1 j hjn)

theorem AnyHead.lex1 {n g : Nat} {R : Act → Prop} (hsel : Region.noSelect ops = true) (hs : sink1B md ops n = true) (hc : Region.chainB md ops n = true) (l : List Oper) :
    ∀ (k : Nat) (done : Array Bool) (a : Act), (∀ j, j < l.length → l[j]? = ops[k + j]?) → k + l.length = n → Inv1 md ops n done → Region.lexHead md ops g l.length k done = true →
      wpQuiet P ops C R l a → AnyHead P md ops C n (fun done' a' => Region.seqB md ops g n done' = true ∧ R a') l.length done a := by
  induction l with
  | nil =>
    intro k done a _ hk _ hB h
    obtain rfl : k = n := by simpa using hk
    exact ⟨by simpa [Region.lexHead] using hB, h⟩
  | cons o l ih =>
    intro k done a hl hk inv hB h
    have h0 : ops[k]? = some o := by simpa using (hl 0 (by simp)).symm
    simp only [List.length_cons, Region.lexHead, Bool.and_eq_true] at hB
    simp only [List.length_cons] at hk
    have hr : k ∈ Region.ready md ops done := by simpa using hB.1.1
    have hq : qOp P ops C k (wpQuiet P ops C R l) a := by unfold qOp; simp only [h0]; exact h
    obtain ⟨v, hy, hK⟩ := yieldsIn_of_qOp h0 hq
    refine AnyHead.first1 h0 (Region.noSelect_spec hsel) hs hc (by omega) (fun d' a' h' => seqB_ready h'.1) l.length done a inv (Region.free_spec h0 hB.1.2) hr hy ?_
    refine ih (k + 1) _ _ (fun j hj => ?_) (by omega) (inv.set hr (by omega)) hB.2 hK
    have := hl (j + 1) (by simp; omega)
    simpa [Nat.add_assoc, Nat.add_comm 1 j] using this

/-- What can be reckoned of the region. -/
def tail1B (ops : Array Oper) (n : Nat) : Bool :=
  Region.noSelect ops && decide (n < ops.size) && decide (1 ≤ n) && sink1B .any ops n && Region.chainB .any ops n && Region.free .any ops (Array.replicate ops.size false) 0 && (Region.ready .any ops (Array.replicate ops.size false)).contains 0 &&
    ((ops[0]?).map fun o => o.after.isEmpty).getD false && Region.lexHead .any ops (ops.size - n) (n - 1) 1 ((Array.replicate ops.size false).setIfInBounds 0 true)

theorem region_head_tail1 {id : Nat} {Q : Exit → Act → World → Prop} {a : Act} {w : World} {o0 : Oper} {l : List Oper} (n : Nat) (v : Value) (hm : P.follows .mixedOrders = true) (hB : tail1B (o0 :: l).toArray n = true) (hC : C w.drew)
    (hy : Yields P (o0 :: l).toArray o0 v a) (hQ : ∀ c a w, Q (.panic c) (a.put o0.dst v) w → Q (.panic c) a w)
    (h : wpQuiet P (o0 :: l).toArray C (fun a' => ∀ w', C w' → wpList P (o0 :: l).toArray Q (l.drop (n - 1)) a' w') (l.take (n - 1)) (a.put o0.dst v)) : (Code.region id (o0 :: l).toArray true).wp P Q a w := by
  simp only [tail1B, Bool.and_eq_true, decide_eq_true_eq] at hB
  obtain ⟨⟨⟨⟨⟨⟨⟨⟨hsel, hn⟩, hn1⟩, hs⟩, hc⟩, hfr⟩, hrd⟩, haf⟩, hlex⟩ := hB
  generalize hops : (o0 :: l).toArray = ops at *
  have hsz : ops.size = l.length + 1 := by rw [← hops]; simp
  have h00 : ops[0]? = some o0 := by rw [← hops]; simp
  have ht : (l.take (n - 1)).length = n - 1 := by simp; omega
  have hd : (l.drop (n - 1)).length = ops.size - n := by simp; omega
  have inv : Inv1 .any ops n ((Array.replicate ops.size false).setIfInBounds 0 true) := by
    refine ⟨⟨by simp, fun j oj hj hl e he hb => ?_, fun t ht' ht2 => ?_⟩, ?_⟩
    · by_cases hj0 : 0 = j
      · subst hj0
        obtain rfl : oj = o0 := Option.some.inj (hj.symm.trans h00)
        rw [h00] at haf
        simp at haf
        rw [haf] at he
        simp at he
      · rw [getD_set_ne false hj0, getD_replicate_false] at hl
        cases hl
    · rw [getD_set_ne true (by omega)]
      exact getD_in (by simpa using ht2) (getD_replicate_false _ _)
    · simp
      omega
  have H := AnyHead.lex1 (md := .any) (g := ops.size - n) hsel hs hc (l.take (n - 1)) 1 _ (a.put o0.dst v) (fun j hj => by
    rw [ht] at hj
    rw [← hops]
    simp [hj, Nat.add_comm 1 j]) (by rw [ht]; omega) inv (by rw [ht]; exact hlex) h
  refine wp_region_any hm ?_
  have K := AnyHead.any (Q := Q) (g := ops.size - n) (fun done a' w' hw' hL => by
    have := wpAny_of_seq (md := .any) (Q' := Q) (l.drop (n - 1)) n done a' w' (fun j => by
      rw [← hops, show n + j = (n - 1 + j) + 1 by omega]
      simp [List.getElem?_drop]) (by rw [hd]; exact hL.1) (hL.2 w' hw')
    rwa [hd] at this) _ _ _ w.drew hC H
  rw [ht] at K
  have K2 := wpAny_take (md := .any) (Q := Q) h00 hsel hfr hrd hQ hy K
  rw [show n - 1 + (ops.size - n) + 1 = ops.size by omega] at K2
  exact K2
end

theorem region_tail1 {P : Program} {id : Nat} {Q : Exit → Act → World → Prop} {a : Act} {w : World} {o0 : Oper} {l : List Oper} (n B : Nat) (v : Value) (hm : P.follows .mixedOrders = true) (hB : tail1B (o0 :: l).toArray n = true)
    (hy : Yields P (o0 :: l).toArray o0 v a) (hQ : ∀ c a w, Q (.panic c) (a.put o0.dst v) w → Q (.panic c) a w)
    (h : wpQuiet P (o0 :: l).toArray (fun w' => ∃ x : Later B w, w' = x.at) (fun a' => ∀ x : Later B w, wpList P (o0 :: l).toArray Q (l.drop (n - 1)) a' x.at) (l.take (n - 1)) (a.put o0.dst v)) : (Code.region id (o0 :: l).toArray true).wp P Q a w :=
  region_head_tail1 (C := fun w' => ∃ x : Later B w, w' = x.at) n v hm hB ⟨⟨w.drew, (Below.refl _ _).drew⟩, rfl⟩ hy hQ (by
    have e : (fun a' => ∀ w', (∃ x : Later B w, w' = x.at) → wpList P (o0 :: l).toArray Q (l.drop (n - 1)) a' w') = (fun a' => ∀ x : Later B w, wpList P (o0 :: l).toArray Q (l.drop (n - 1)) a' x.at) := by
      funext a'
      apply propext
      exact ⟨fun k x => k _ ⟨x, rfl⟩, fun k w' ⟨x, hx⟩ => hx ▸ k x⟩
    rw [e]
    exact h)

end Go.Proofs.YtcbfppangiopeaaGreat

namespace Go.Proofs.YtcbfppangiopeaaGreat
open Go.RowKit Go.Maps
set_option maxRecDepth 100000

/-- A route that lies at an address. -/
def FBox (w : World) (g o : Nat) (x : Pr) : Prop := w.cell? ⟨g, o, none⟩ = some (.int .u64 (u x.p.a.hi)) ∧ w.cell? ⟨g, o + 1, none⟩ = some (.int .u64 (u x.p.a.lo)) ∧ w.cell? ⟨g, o + 2, none⟩ = some (.bool x.p.a.v6) ∧ w.cell? ⟨g, o + 3, none⟩ = some (.int .i64 x.p.n) ∧ w.cell? ⟨g, o + 4, none⟩ = some (.int .i64 x.v) ∧ g < w.heap.size
theorem FBox.keep {w w' : World} {g o : Nat} {x : Pr} (h : FBox w g o x) (hb : Below w.heap.size w w') : FBox w' g o x := by
  obtain ⟨c0, c1, c2, c3, c4, hz⟩ := h
  exact ⟨(hb.cell (p := ⟨g, o, none⟩) hz).trans c0, (hb.cell (p := ⟨g, o + 1, none⟩) hz).trans c1, (hb.cell (p := ⟨g, o + 2, none⟩) hz).trans c2, (hb.cell (p := ⟨g, o + 3, none⟩) hz).trans c3, (hb.cell (p := ⟨g, o + 4, none⟩) hz).trans c4, Nat.lt_of_lt_of_le hz hb.size⟩
theorem five_at {w : World} {base n c : Nat} {E : TypeId} {A : Option Addr} {l : List Pr} (h : w.ownsRow base E 5 (.slice A n c) n (prv l)) (hn : n = l.length) {k : Nat} (hk : k < l.length) : ∃ g, A = some ⟨g, 0, none⟩ ∧ FBox w g (k * 5) l[k] := by
  obtain ⟨g, c', e, -, hz, hcc⟩ := row_cell h hn hk
  simp only [Value.slice.injEq, true_and] at e
  exact ⟨g, e.1, hcc 0 (by decide), hcc 1 (by decide), hcc 2 (by decide), hcc 3 (by decide), hcc 4 (by decide), hz⟩
def keepJ (x : Ac) (T : List Pr) (j : Nat) : List Pr := (T.take j).filter (fun y => decide (y.p ≠ x.p))
theorem keepJ_succ (x : Ac) (T : List Pr) {j : Nat} (hj : j < T.length) : keepJ x T (j + 1) = keepJ x T j ++ (if T[j].p ≠ x.p then [T[j]] else []) := by
  unfold keepJ
  rw [List.take_succ_eq_append_getElem hj, List.filter_append]
  congr 1
  by_cases h : T[j].p ≠ x.p
  · rw [if_pos h, List.filter_cons_of_pos (by simpa using h)]
    rfl
  · rw [if_neg h, List.filter_cons_of_neg (by simpa using h)]
    rfl
theorem keepJ_len (x : Ac) (T : List Pr) (j : Nat) : (keepJ x T j).length ≤ T.length := by
  unfold keepJ
  have h1 := List.length_filter_le (fun y : Pr => decide (y.p ≠ x.p)) (T.take j)
  have h2 : (T.take j).length ≤ T.length := by rw [List.length_take]; omega
  omega
theorem keepJ_all (x : Ac) (T : List Pr) : keepJ x T T.length = T.filter (fun y => decide (y.p ≠ x.p)) := by
  unfold keepJ
  rw [List.take_length]
/-- At the head of a round of the first loop. -/
def RDumpRel (w : World) (r : Nat) (n h : Int) (ls : List Ac) (v i : Value) (wr : World) : Prop :=
  ∃ (k : Nat) (S : Nat → Prop) (T : List Pr) (A : Option Addr) (c : Nat), v = .slice A T.length c ∧ k ≤ ls.length ∧ i = .int .i64 k ∧ RibS wr r S n h (rplayK n h ls k).1 (rplayK n h ls k).2 ∧ (rplayK n h ls k).2 ≤ 2 + 128 * k ∧ (∀ b, S b → w.heap.size ≤ b) ∧ Below w.heap.size w wr ∧
    wr.ownsRow w.heap.size 51 5 (.slice A T.length c) T.length (prv T) ∧ (∀ b, S b → (Value.slice A T.length c).ownBlock ≠ some b) ∧ T.Perm (rplayK n h ls k).1

end Go.Proofs.YtcbfppangiopeaaGreat

namespace Go.Proofs.YtcbfppangiopeaaGreat
open Go.RowKit Go.Maps
set_option maxRecDepth 100000

theorem rdq_fbox {w : World} {A : Option Addr} {L : List Pr} (h : RdQ w A L) {k : Nat} (hk : k < L.length) : ∃ g off, A = some ⟨g, off, none⟩ ∧ FBox w g (off + k * 5) L[k] := by
  obtain ⟨g, off, e, hz, hc⟩ := h (by rintro rfl; cases hk)
  obtain ⟨c0, c1, c2, c3, c4⟩ := hc k hk
  exact ⟨g, off, e, c0, c1, c2, c3, c4, hz⟩
theorem idx_rpair (g off n c k : Nat) (h : k < n) (V : World) : (Instr.indexAt 31 (.slice (some ⟨g, off, none⟩) n c) (.int .i64 (k : Int))).run Tryz.prog V = .ok (.pointer (some ⟨g, off + k * 5, none⟩)) V := by
  have h0 : (0 : Int) ≤ (k : Int) := by omega
  have h1 : (k : Int) < (n : Int) := by omega
  go_simp
theorem lk_at : ∀ {L : List Pr} {p : Pf} {k : Nat} (hk : k < L.length), (∀ j, (hj : j < k) → (L[j]'(by omega)).p ≠ p) → L[k].p = p → lk L p = some L[k].v := by
  intro L
  induction L with
  | nil => intro p k hk; cases hk
  | cons x l ih =>
    intro p k hk hn he
    rw [lk_cons]
    cases k with
    | zero => exact if_pos he
    | succ k =>
      have h0 : x.p ≠ p := hn 0 (by omega)
      rw [if_neg h0]
      exact ih (by simpa using hk) (fun j hj => hn (j + 1) (by omega)) he
theorem lk_no : ∀ {L : List Pr} {p : Pf}, (∀ j, (hj : j < L.length) → L[j].p ≠ p) → lk L p = none := by
  intro L
  induction L with
  | nil => intro p _; rfl
  | cons x l ih =>
    intro p hn
    have h0 : x.p ≠ p := hn 0 (by simp)
    rw [lk_cons, if_neg h0]
    exact ih fun j hj => hn (j + 1) (by simpa using hj)
variable {w : World} {A : Option Addr} {L : List Pr} {c : Nat}
end Go.Proofs.YtcbfppangiopeaaGreat

namespace Go.Proofs.YtcbfppangiopeaaGreat
open Go.RowKit Go.Maps
set_option maxRecDepth 100000

def delJ (p : Pf) (L : List Pr) (k : Nat) : List Pr := (L.take k).filter (fun y => decide (y.p ≠ p))
theorem delJ_succ (p : Pf) (L : List Pr) {k : Nat} (h : k < L.length) : delJ p L (k + 1) = delJ p L k ++ (if L[k].p ≠ p then [L[k]] else []) := by
  unfold delJ
  rw [List.take_succ_eq_append_getElem h, List.filter_append]
  congr 1
  by_cases h : L[k].p ≠ p
  · rw [if_pos h, List.filter_cons_of_pos (by simpa using h)]
    rfl
  · rw [if_neg h, List.filter_cons_of_neg (by simpa using h)]
    rfl
theorem delJ_len (p : Pf) (L : List Pr) (k : Nat) : (delJ p L k).length ≤ L.length := by
  unfold delJ
  have h1 := List.length_filter_le (fun y : Pr => decide (y.p ≠ p)) (L.take k)
  have h2 : (L.take k).length ≤ L.length := by rw [List.length_take]; omega
  omega
theorem delJ_all (p : Pf) (L : List Pr) : delJ p L L.length = delL p L := by
  unfold delJ
  rw [List.take_length]
  rfl
theorem del_same {p : Pf} {L : List Pr} (h : lk L p = none) : delL p L = L := filter_all fun y hy => by
  simp only [decide_eq_true_eq]
  exact lk_noneF h y hy
theorem del_less {p : Pf} : ∀ {L : List Pr}, lk L p ≠ none → (delL p L).length < L.length := by
  intro L
  induction L with
  | nil => intro h; exact absurd rfl h
  | cons x l ih =>
    intro h
    rw [lk_cons] at h
    have hle := List.length_filter_le (fun y : Pr => decide (y.p ≠ p)) l
    unfold delL at ih ⊢
    by_cases he : x.p = p
    · rw [List.filter_cons_of_neg (by simpa using he), List.length_cons]
      omega
    · rw [if_neg he] at h
      rw [List.filter_cons_of_pos (by simpa using he), List.length_cons, List.length_cons]
      have := ih h
      omega
theorem own_gek {w : World} {base base0 : Nat} {e : TypeId} {size n m c : Nat} {A' : Option Addr} {xs : List Value} (h : w.ownsRow base e size (.slice A' m c) n xs) (hb : base0 ≤ base) : ∀ g, A'.map (·.block) = some g → base0 ≤ g := by
  intro g hg
  refine Nat.le_trans hb (own_ge h g ?_)
  cases A' with
  | none => cases hg
  | some a => exact hg
def KDelPost (w : World) (A : Option Addr) (p : Pf) (L : List Pr) (most : Int) (e : Ending) (w' : World) : Prop := ∃ A' c', e = .returned (.tuple #[.agg #[.slice A' (delQ p L).length c', .int .i64 most], .int .i64 (delE p L)]) ∧ RdQ w' A' (delQ p L) ∧ (∀ g, A'.map (·.block) = some g → A' = A ∨ w.heap.size ≤ g) ∧ Below w.heap.size w w'
theorem size_ktrie : (Tryz.prog.info? 33).map (·.size) = some 2 := by kernel_rfl
variable {w : World} {A : Option Addr} {L : List Pr} {c : Nat}
set_option maxHeartbeats 4000000 in
theorem kdel_any (hr : RdQ w A L) (hl : L.length ≤ 10000) (most : Int) (p : Pf) : Calls Tryz.prog 46 #[.agg #[.slice A L.length c, .int .i64 most], .agg #[.int .u64 (u p.a.hi), .int .u64 (u p.a.lo), .bool p.a.v6, .int .i64 p.n]] w (KDelPost w A p L most) := by
  have HR := Lib.hid hr
  have HL := Lib.hid hl
  have HRO := Lib.hid hr
  clear hr hl
  have CS := Lib.hid (fun W => rpsane_any p W)
  unfold KDelPost
  go_enter Tryz.func46, Tryz.ntmps46
  go_upto_region 1 with fail
  generalize hV : World.alloc _ _ = w0
  have b0 : Below w.heap.size w w0 := by subst hV; go_grown
  have HT0 : Hid (KBox w0 w.heap.size A L.length c most) := Lib.hid (by subst hV; exact ⟨by go_simp <;> rfl, by go_simp <;> rfl, by go_size⟩)
  have HP0 : Hid (PBox w0 (w.heap.size + 1) p) := Lib.hid (by subst hV; exact ⟨by go_simp <;> rfl, by go_simp <;> rfl, by go_simp <;> rfl, by go_simp <;> rfl, by go_simp <;> rfl, by go_simp <;> rfl, by go_simp <;> rfl, by go_simp <;> rfl, by go_size⟩)
  have hres : w0.heap[w.heap.size + 1 + 1]? = some (.cells #[.slice none 0 0, .int .i64 0] 33 (0, 0)) := by subst hV; repeat (first | (refine hp_new ?_; (simp; done)) | (refine hp_old ?_ ?_; · (first | (simp; done) | (simp; omega))))
  have HQ0 := Lib.hid hres
  clear hV hres
  obtain ⟨pa, pb, pc, pd, -, -, -, -, pz⟩ := id HP0.out
  go_wp2_with fail
  refine (CS.out _).mono ?_
  rintro e w1 ⟨rfl, hw1⟩
  have b1 : Below w.heap.size w w1 := b0.trans (hw1.mono b0.size)
  have HT1 := Lib.hid (HT0.out.keep hw1)
  have HP1 := Lib.hid (HP0.out.keep hw1)
  have HQ1 := Lib.hid ((hw1.block _ (lt_of_block HQ0.out)).trans HQ0.out)
  have HR1 := Lib.hid (HR.out.keep b1 (Nat.le_refl _))
  have zq := lt_of_block HQ1.out
  clear hw1 HT0 HP0 HQ0 HR b0 pa pb pc pd pz
  cases hp : psane p
  · have hp1 : (!psane p) = true := by simp [hp]
    have HD := Lib.hid (show delQ p L = L ∧ delE p L = 1 by unfold delQ delE; rw [hp]; exact ⟨rfl, rfl⟩)
    clear hp
    obtain ⟨k0, k1, kz⟩ := id HT1.out
    have r0 : w1.cell? ⟨w.heap.size + 1 + 1, 0, none⟩ = some (.slice none 0 0) := by rw [cell_row HQ1.out]; rfl
    have r1 : w1.cell? ⟨w.heap.size + 1 + 1, 1, none⟩ = some (.int .i64 0) := by rw [cell_row HQ1.out]; rfl
    have q0 := frozen_of_row w1 (w.heap.size + 1 + 1) 0 _ _ HQ1.out
    have q1 := frozen_of_row w1 (w.heap.size + 1 + 1) 1 _ _ HQ1.out
    go_wp2
    refine bodyPost_ret (v := .tuple #[.agg #[.slice A L.length c, .int .i64 most], .int .i64 1]) (by simp [*, results, Tryz.results46, go_sem] <;> rfl) rfl ⟨A, c, by rw [HD.out.1, HD.out.2], ?_, fun g _ => .inl rfl, b1.trans (((Below.refl _ _).setCell (by simp; omega) _).setCell (by simp; omega) _)⟩
    rw [HD.out.1]
    exact HRO.out.keep (b1.trans (((Below.refl _ _).setCell (by simp; omega) _).setCell (by simp; omega) _)) (Nat.le_refl _)
  · have hp1 : (!psane p) = false := by simp [hp]
    have HPS := Lib.hid hp
    clear hp
    obtain ⟨k0, k1, kz⟩ := id HT1.out
    go_wp2_with fail
    clear k0 k1 kz
    go_loopw [6, 7] (fun v i wr => ∃ (k : Nat) (A' : Option Addr) (c' N : Nat), v = .slice A' N c' ∧ N = (delJ p L k).length ∧ k ≤ L.length ∧ i = .int .i64 k ∧ Hid (wr.ownsRow w1.heap.size 104 5 (.slice A' N c') N (prv (delJ p L k))) ∧ Below w1.heap.size w1 wr) (fun _ i _ => L.length - (RowKit.intOf i).toNat)
    case atStart => exact ⟨0, none, 0, 0, rfl, rfl, Nat.zero_le _, rfl, Lib.hid (World.ownsRow_nil _ _ _ _), Below.refl _ _⟩
    case round =>
      obtain ⟨k, A', c', N, rfl, hN, hk, rfl, ho, hB⟩ := hrel
      have hNle : N ≤ 10000 := by have := delJ_len p L k; have := HL.out; omega
      have hk9 : k ≤ 10000 := by have := HL.out; omega
      have HN := Lib.hid hN
      clear hN
      obtain ⟨W, rfl⟩ : ∃ W, W = wr := ⟨_, rfl⟩
      have HB := Lib.hid hB
      have HTW := Lib.hid (HT1.out.keep hB)
      have HPW := Lib.hid (HP1.out.keep hB)
      obtain ⟨k0, k1, kz⟩ := id HTW.out
      have zW := hB.size
      by_cases hlt : k < L.length
      · have hlt' : decide ((k : Int) < (L.length : Int)) = true := decide_eq_true (by omega)
        obtain ⟨g, off, hA, hX⟩ := rdq_fbox (HR1.out.keep hB (Nat.le_refl _)) hlt
        subst hA
        have hi1 := fun V => idx_rpair g off L.length c k hlt V
        have hsu := delJ_succ p L hlt
        obtain ⟨x, hx⟩ : ∃ x, L[k] = x := ⟨_, rfl⟩
        rw [hx] at hX hsu
        have HSU := Lib.hid hsu
        have HLT := Lib.hid hlt
        have HX := Lib.hid hX
        have hpq := pfEq_iff x.p p
        unfold pfEq at hpq
        go_upto_region 7 with fail
        clear hlt' k1
        obtain ⟨m0, m1, m2, m3, m4, zm⟩ := hX
        obtain ⟨pa, pb, pc, pd, -, -, -, -, pz⟩ := id HPW.out
        have Lk0 := fun q : Later W.heap.size W => (q.cell kz).trans k0
        have Lm0 := fun q : Later W.heap.size W => (q.cell (p := ⟨g, off + k * 5, none⟩) zm).trans m0
        have Lm1 := fun q : Later W.heap.size W => (q.cell (p := ⟨g, off + k * 5 + 1, none⟩) zm).trans m1
        have Lm2 := fun q : Later W.heap.size W => (q.cell (p := ⟨g, off + k * 5 + 2, none⟩) zm).trans m2
        have Lm3 := fun q : Later W.heap.size W => (q.cell (p := ⟨g, off + k * 5 + 3, none⟩) zm).trans m3
        have Lpa := fun q : Later W.heap.size W => (q.cell pz).trans pa
        have Lpb := fun q : Later W.heap.size W => (q.cell pz).trans pb
        have Lpc := fun q : Later W.heap.size W => (q.cell pz).trans pc
        have Lpd := fun q : Later W.heap.size W => (q.cell pz).trans pd
        clear hx hsu hlt hk hB m0 m1 m2 m3 m4 pa pb pc pd k0
        refine region_later W.heap.size (by kernel_rfl) (by kernel_rfl) ?_
        repeat (go_big_quiet_step (fail))
        refine wpQuiet_nil ?_
        intro q
        have hq := q.below
        generalize q.at = V at hq ⊢
        clear q Lk0 Lm0 Lm1 Lm2 Lm3 Lpa Lpb Lpc Lpd
        have bV := HB.out.trans (hq.mono HB.out.size)
        have HOV := Lib.hid (own_fresh ho.out hq)
        have zV := bV.size
        obtain ⟨m0, m1, m2, m3, m4, zm⟩ := HX.out.keep hq
        obtain ⟨k0, -, kz⟩ := HTW.out.keep hq
        clear hq ho zW
        obtain ⟨pq, hpqq⟩ : ∃ pq, pfB (u x.p.a.hi) (u x.p.a.lo) x.p.a.v6 x.p.n (u p.a.hi) (u p.a.lo) p.a.v6 p.n = pq := ⟨_, rfl⟩
        rw [hpqq] at hpq ⊢
        clear hpqq
        cases pq
        · have e : ¬ x.p = p := fun e => by have := hpq.2 e; cases this
          have HT' : Hid (delJ p L (k + 1) = delJ p L k ++ [x]) := by rw [HSU.out, if_pos e]; exact Lib.hid rfl
          clear hpq e HSU
          go_wp2_with (
            at_builtin
            refine wpList_five1g five_ref rfl (.tmp 27) (.tmp 33) rfl w1.heap.size _ N (delJ p L k) (by rfl) (HOV.out.alloc _) V.heap.size x (by rfl) (heap_alloc_new V _) (by omega) (by simp; omega) ?_
            intro g7 c7 w7 ho7 hg7 hat7
            have b7 : Below w1.heap.size w1 w7 := (bV.alloc (by omega) _).trans ((Below.refl w1.heap.size _).grown hg7 (by simp; omega) (fun b hb => own_ge HOV.out b hb))
            have HO7 := Lib.hid ho7
            clear ho7 hg7 hat7 m0 m1 m2 m3 m4 k0 hi1)
          go_roundw
          case rel => exact ⟨k + 1, some ⟨g7, 0, none⟩, c7, N + 1, rfl, by rw [HT'.out, List.length_append, ← HN.out]; rfl, HLT.out, by go_num, by rw [HT'.out]; exact HO7, b7⟩
          case measure => simp [RowKit.intOf]; have := HLT.out; omega
        · have e := hpq.1 rfl
          have HT' : Hid (delJ p L (k + 1) = delJ p L k) := by rw [HSU.out, if_neg (by simpa using e)]; exact Lib.hid (List.append_nil _)
          clear hpq e HSU m0 m1 m2 m3 m4 k0 hi1
          go_wp2
          go_roundw
          case rel => exact ⟨k + 1, A', c', N, rfl, by rw [HT'.out]; exact HN.out, HLT.out, by go_num, by rw [HT'.out]; exact HOV, bV⟩
          case measure => simp [RowKit.intOf]; have := HLT.out; omega
      · obtain rfl : k = L.length := by omega
        have hlt' : decide ((L.length : Int) < (L.length : Int)) = false := by simp
        rw [delJ_all] at ho HN
        have HQW := Lib.hid ((hB.block _ zq).trans HQ1.out)
        have HRW := Lib.hid (HR1.out.keep hB (Nat.le_refl _))
        have bW := b1.trans (hB.mono b1.size)
        have z1 := b1.size
        clear hlt hk hB
        have hdq : delQ p L = delL p L := by unfold delQ; rw [if_pos HPS.out]
        cases hlk : lk L p with
        | none =>
          have hsame := del_same hlk
          have hde : delE p L = 2 := by unfold delE; rw [if_pos HPS.out, hlk]; rfl
          have hNL : (N : Int) = (L.length : Int) := by rw [HN.out, hsame]
          have te : ((N : Int) == (L.length : Int)) = true := by rw [beq_iff_eq]; exact hNL
          have HD := Lib.hid (show delQ p L = L ∧ delE p L = 2 from ⟨hdq.trans hsame, hde⟩)
          clear hsame hde hNL hdq hlk
          have r0 : W.cell? ⟨w.heap.size + 1 + 1, 0, none⟩ = some (.slice none 0 0) := by rw [cell_row HQW.out]; rfl
          have r1 : W.cell? ⟨w.heap.size + 1 + 1, 1, none⟩ = some (.int .i64 0) := by rw [cell_row HQW.out]; rfl
          have q0 := frozen_of_row W (w.heap.size + 1 + 1) 0 _ _ HQW.out
          have q1 := frozen_of_row W (w.heap.size + 1 + 1) 1 _ _ HQW.out
          go_wp2
          refine bodyPost_ret (v := .tuple #[.agg #[.slice A L.length c, .int .i64 most], .int .i64 2]) (by simp [*, results, Tryz.results46, go_sem] <;> rfl) rfl ⟨A, c, by rw [HD.out.1, HD.out.2], ?_, fun g _ => .inl rfl, bW.trans (((Below.refl _ _).setCell (by simp; omega) _).setCell (by simp; omega) _)⟩
          rw [HD.out.1]
          exact HRO.out.keep (bW.trans (((Below.refl _ _).setCell (by simp; omega) _).setCell (by simp; omega) _)) (Nat.le_refl _)
        | some v =>
          have hless := del_less (p := p) (L := L) (by rw [hlk]; simp)
          have hde : delE p L = 0 := by unfold delE; rw [if_pos HPS.out, hlk]; rfl
          have te : ((N : Int) == (L.length : Int)) = false := by rw [beq_eq_false_iff_ne, HN.out]; omega
          have HD := Lib.hid (show delQ p L = delL p L ∧ delE p L = 0 from ⟨hdq, hde⟩)
          clear hless hde hdq hlk
          have r0 : W.cell? ⟨w.heap.size + 1 + 1, 0, none⟩ = some (.slice none 0 0) := by rw [cell_row HQW.out]; rfl
          have r1 : W.cell? ⟨w.heap.size + 1 + 1, 1, none⟩ = some (.int .i64 0) := by rw [cell_row HQW.out]; rfl
          have q0 := frozen_of_row W (w.heap.size + 1 + 1) 0 _ _ HQW.out
          have q1 := frozen_of_row W (w.heap.size + 1 + 1) 1 _ _ HQW.out
          go_wp2
          have HOO := Lib.hid (show ∀ w9 : World, w9 = ((W.setCell ⟨w.heap.size + 1 + 1, 0, none⟩ (.slice A' N c')).setCell ⟨w.heap.size + 1 + 1, 1, none⟩ (.int .i64 most)) → RdQ w9 A' (delL p L) from fun w9 hw9 => by
            have hf : Frm (fun b => b = w.heap.size + 1 + 1) W w9 := by
              rw [hw9]
              exact ((Frm.refl (fun b => b = w.heap.size + 1 + 1) W).setCell (p := ⟨w.heap.size + 1 + 1, 0, none⟩) (.inl rfl) _).setCell (p := ⟨w.heap.size + 1 + 1, 1, none⟩) (.inl rfl) _
            have ho9 : w9.ownsRow w1.heap.size 104 5 (.slice A' N c') N (prv (delL p L)) := own_block ho.out (fun b hb hl => hf.block b hl (fun e => by have := own_ge ho.out b hb; omega))
            obtain ⟨A9, c9, e9, hrd⟩ := own_rdq (l := delL p L) (by rw [← HN.out]; exact ho9)
            rw [← HN.out] at e9
            simp only [Value.slice.injEq, true_and] at e9
            obtain ⟨rfl, rfl⟩ := e9
            exact hrd)
          refine bodyPost_ret (v := .tuple #[.agg #[.slice A' N c', .int .i64 most], .int .i64 0]) (by simp [*, results, Tryz.results46, go_sem] <;> rfl) rfl ⟨A', c', by rw [HD.out.1, HD.out.2, ← HN.out], ?_, fun g hg => .inr (own_gek ho.out (by omega) g hg), bW.trans (((Below.refl _ _).setCell (by simp; omega) _).setCell (by simp; omega) _)⟩
          rw [HD.out.1]
          exact HOO.out _ rfl

end Go.Proofs.YtcbfppangiopeaaGreat

namespace Go.Proofs.YtcbfppangiopeaaGreat
open Go.RowKit
set_option maxRecDepth 100000

/-- How an element lies in cells. -/
structure Kd (α : Type) where
  enc : α → List Value
  k : Nat
  pos : 0 < k
  len : ∀ x, (enc x).length = k
  cell : ∀ x, ∀ u ∈ enc x, u.oneCell' = true
section
variable {α : Type} (K : Kd α)
def Kd.row (l : List α) : List Value := l.flatMap K.enc
theorem Kd.row_append (a b : List α) : K.row (a ++ b) = K.row a ++ K.row b := List.flatMap_append
theorem Kd.row_one (a : α) : K.row [a] = K.enc a := by simp [Kd.row]
theorem Kd.row_cons (a : α) (l : List α) : K.row (a :: l) = K.enc a ++ K.row l := rfl
theorem Kd.row_len (l : List α) : (K.row l).length = l.length * K.k := by
  induction l with
  | nil => simp [Kd.row]
  | cons r l ih => rw [K.row_cons, List.length_append, ih, K.len, List.length_cons, Nat.add_mul]; omega
theorem Kd.row_at (l : List α) (i : Nat) (h : i < l.length) (j : Nat) (hj : j < K.k) : (K.row l)[i * K.k + j]? = (K.enc l[i])[j]? := by
  induction l generalizing i with
  | nil => cases h
  | cons r l ih =>
    rw [K.row_cons]
    cases i with
    | zero => rw [List.getElem?_append_left (by rw [K.len]; omega)]; simp
    | succ i =>
      rw [List.getElem?_append_right (by rw [K.len, Nat.add_mul]; omega)]
      have e : (i + 1) * K.k + j - (K.enc r).length = i * K.k + j := by rw [K.len, Nat.add_mul]; omega
      rw [e, ih i (by simpa using h)]
      rfl
theorem Kd.row_cell (l : List α) : ∀ u ∈ K.row l, u.oneCell' = true := by
  intro u hu
  obtain ⟨x, _, hx⟩ := List.mem_flatMap.1 hu
  exact K.cell x u hx
/-- A type of these elements, and the one of their slices. -/
structure Kd.Ty (E SL : TypeId) : Prop where
  info : ∃ (i : TypeInfo) (z : Value), Tryz.prog.info? E = some i ∧ i.zero = some z ∧ i.size = K.k ∧ i.bytes ≤ 140000 ∧ z.cells.size = K.k
  sl : Tryz.prog.underlying SL = some (.slice E)
/-- Elements that lie in memory, as a slice says. -/
def Kd.Rd (w : World) (A : Option Addr) (l : List α) : Prop :=
  l ≠ [] → ∃ g off, A = some ⟨g, off, none⟩ ∧ g < w.heap.size ∧ ∀ i, (h : i < l.length) → ∀ j, j < K.k → w.cell? ⟨g, off + i * K.k + j, none⟩ = (K.enc l[i])[j]?
variable {K}
theorem Kd.Rd.keep {B : Nat} {w w' : World} {A : Option Addr} {l : List α} (h : K.Rd w A l) (hb : Below B w w') (hB : w.heap.size ≤ B) : K.Rd w' A l := fun hn => by
  obtain ⟨g, off, e, hg, hc⟩ := h hn
  refine ⟨g, off, e, Nat.lt_of_lt_of_le hg hb.size, fun i hi j hj => ?_⟩
  exact (hb.cell (p := ⟨g, off + i * K.k + j, none⟩) (Nat.lt_of_lt_of_le hg hB)).trans (hc i hi j hj)
theorem Kd.Rd.kept {w w' : World} {A : Option Addr} {l : List α} (h : K.Rd w A l) (hb : Below w.heap.size w w') : K.Rd w' A l := h.keep hb (Nat.le_refl _)
/-- It lies below a bound, and so stays. -/
theorem Kd.Rd.under {B : Nat} {w w' : World} {A : Option Addr} {l : List α} (h : K.Rd w A l) (hA : ∀ a, A = some a → a.block < B) (hb : Below B w w') : K.Rd w' A l := fun hn => by
  obtain ⟨g, off, e, hg, hc⟩ := h hn
  have hgB := hA _ e
  exact ⟨g, off, e, Nat.lt_of_lt_of_le hg hb.size, fun i hi j hj => (hb.cell (p := ⟨g, off + i * K.k + j, none⟩) hgB).trans (hc i hi j hj)⟩
theorem Kd.Rd.frm {S : Nat → Prop} {w w' : World} {A : Option Addr} {l : List α} (h : K.Rd w A l) (hf : Frm S w w') (hn : ∀ a, A = some a → ¬ S a.block) : K.Rd w' A l := fun hl => by
  obtain ⟨g, off, e, hg, hc⟩ := h hl
  exact ⟨g, off, e, Nat.lt_of_lt_of_le hg hf.size, fun i hi j hj => (hf.cell (p := ⟨g, off + i * K.k + j, none⟩) hg (hn ⟨g, off, none⟩ e)).trans (hc i hi j hj)⟩
theorem Kd.rd_nil (w : World) (A : Option Addr) : K.Rd w A [] := fun h => absurd rfl h
theorem Kd.rd_own {w : World} {base : Nat} {E : TypeId} {v : Value} {n : Nat} {l : List α} (h : w.ownsRow base E K.k v n (K.row l)) (hn : n = l.length) : ∃ A c, v = .slice A n c ∧ n ≤ c ∧ K.Rd w A l ∧ (∀ a, A = some a → base ≤ a.block ∧ a.block < w.heap.size ∧ a = ⟨a.block, 0, none⟩) := by
  subst hn
  have hw := h
  rcases h.2 with ⟨rfl, h0⟩ | ⟨g, cap, cur, rfl, hb, hg, hnc, _⟩
  · obtain rfl := List.eq_nil_of_length_eq_zero h0
    exact ⟨none, 0, rfl, Nat.le_refl _, Kd.rd_nil _ _, fun a e => by cases e⟩
  · have hlt := (hw.lt g rfl).2
    refine ⟨some ⟨g, 0, none⟩, cap, rfl, hnc, fun _ => ⟨g, 0, rfl, hlt, fun i hi j hj => ?_⟩, fun a e => by cases e; exact ⟨hb, hlt, rfl⟩⟩
    have hlt2 : i * K.k + j < l.length * K.k := Nat.lt_of_lt_of_le (by rw [show (i + 1) * K.k = i * K.k + K.k from by rw [Nat.add_mul]; omega]; omega : i * K.k + j < (i + 1) * K.k) (Nat.mul_le_mul_right _ (by omega))
    rw [Nat.zero_add, hw.cellAt (i * K.k + j) hlt2, K.row_at l i hi j hj]
theorem Kd.Rd.news {w : World} {ad : Addr} {l : List α} (h : K.Rd w (some ad) l) : ∀ j u, (K.row l)[j]? = some u → w.cell? (ad.add j) = some u := fun j u hu => by
  have hj : j < l.length * K.k := by
    have := (List.getElem?_eq_some_iff.1 hu).1
    rwa [K.row_len] at this
  have hl : l ≠ [] := by rintro rfl; simp at hj
  obtain ⟨g, off, e, hg, hc⟩ := h hl
  cases e
  have hi : j / K.k < l.length := (Nat.div_lt_iff_lt_mul K.pos).2 hj
  have e1 : j / K.k * K.k + j % K.k = j := Nat.div_add_mod' j K.k
  have := hc (j / K.k) hi (j % K.k) (Nat.mod_lt _ K.pos)
  rw [← K.row_at l (j / K.k) hi (j % K.k) (Nat.mod_lt _ K.pos), e1] at this
  have hadd : (⟨g, off, none⟩ : Addr).add j = ⟨g, off + (j / K.k) * K.k + j % K.k, none⟩ := by
    have hadd' : (⟨g, off, none⟩ : Addr).add j = ⟨g, off + j, none⟩ := by unfold Addr.add; split <;> simp_all
    rw [hadd', Nat.add_assoc, e1]
  rw [hadd, this]
  exact hu
theorem Kd.Rd.drop {w : World} {g off : Nat} {l : List α} (h : K.Rd w (some ⟨g, off, none⟩) l) (n : Nat) : K.Rd w (some ⟨g, off + n * K.k, none⟩) (l.drop n) := fun hl => by
  obtain ⟨g', off', e, hg, hc⟩ := h (by rintro rfl; simp at hl)
  cases e
  refine ⟨g, _, rfl, hg, fun i hi j hj => ?_⟩
  rw [List.length_drop] at hi
  have := hc (n + i) (by omega) j hj
  rw [List.getElem_drop, ← this]
  congr 2
  rw [Nat.add_mul]
  omega
theorem Kd.Rd.take {w : World} {A : Option Addr} {l : List α} (h : K.Rd w A l) (n : Nat) : K.Rd w A (l.take n) := fun hl => by
  obtain ⟨g', off', e, hg, hc⟩ := h (by rintro rfl; simp at hl)
  refine ⟨g', _, e, hg, fun i hi j hj => ?_⟩
  rw [List.length_take] at hi
  rw [List.getElem_take]
  exact hc i (by omega) j hj

/-- A row laid behind a row. -/
theorem Kd.append {E SL : TypeId} (F : K.Ty E SL) (W : World) (base : Nat) (v : Value) (n : Nat) (a b : List α) (ty : TypeId) (hn : n = a.length) (hown : W.ownsRow base E K.k v n (K.row a)) (A : Option Addr) (m c : Nat) (hm : m = b.length) (hA : A = none → m = 0 ∧ c = 0) (h2 : K.Rd W A b) (hb : n + m ≤ 1000000000) (hbase : base ≤ W.heap.size) :
    ∃ v' w', (Builtin.append_ #[SL, SL] ty #[v, .slice A m c]).run Tryz.prog W = .ok v' w' ∧ w'.ownsRow base E K.k v' (n + m) (K.row (a ++ b)) ∧ W.grownBy w' v.ownBlock ∧ (v'.ownBlock = v.ownBlock ∨ v'.ownBlock = some W.heap.size) := by
  subst hn
  subst hm
  obtain ⟨i0, z0, hi0, hz0, hz1, hz2, hz3⟩ := F.info
  cases A with
  | none =>
    obtain ⟨hn, rfl⟩ := hA rfl
    have e : b = [] := List.eq_nil_of_length_eq_zero hn
    subst e
    refine ⟨v, W, ?_, by simpa using hown, World.grownBy.refl W _, .inl rfl⟩
    rcases hown.2 with ⟨rfl, h0⟩ | ⟨g, cap, cur, rfl, _, _, hnc, _⟩
    · simp [Builtin.append_, run_underlying F.sl, sizeOf, typeInfo, hi0, Builtin.lenOf, Builtin.firstCells]
    · simp [Builtin.append_, run_underlying F.sl, sizeOf, typeInfo, hi0, Builtin.lenOf, Builtin.firstCells, hnc, storeCells]
  | some ad =>
    obtain ⟨v', w', e1, e2, e3, _, e5⟩ := run_append_own_at (P := Tryz.prog) W base SL ty E i0 z0 K.k i0.bytes F.sl hi0 hz0 hz1 rfl hz3 K.pos v a.length _ hown ad b.length c (K.row b) (K.row_len b) h2.news (K.row_cell b) (by simp only [maxLen]; omega) (Nat.le_trans (Nat.mul_le_mul hb hz2) (by decide)) hbase
    exact ⟨v', w', e1, by rw [K.row_append]; exact e2, e3, e5⟩
variable {ops : Array Oper} {o : Oper} {a : Act} {w : World} {Q : Exit → Act → World → Prop}
theorem val_of {w : World} {base : Nat} {e : TypeId} {size n : Nat} {v : Value} {xs : List Value} (h : w.ownsRow base e size v n xs) : ∃ A c, v = .slice A n c := by
  rcases h.2 with ⟨rfl, rfl⟩ | ⟨g, cap, cur, rfl, _⟩
  · exact ⟨_, _, rfl⟩
  · exact ⟨_, _, rfl⟩
/-- What append leaves: the row, and which blocks have turned. -/
def Kd.Grew (K : Kd α) (E : TypeId) (base : Nat) (v : Value) (n : Nat) (l : List α) (w : World) (v' : Value) (w' : World) : Prop :=
  w'.ownsRow base E K.k v' n (K.row l) ∧ w.grownBy w' v.ownBlock ∧ (v'.ownBlock = v.ownBlock ∨ v'.ownBlock = some w.heap.size) ∧ Below base w w'
theorem Kd.wpList_many {E SL : TypeId} (F : K.Ty E SL) {rest : List Oper} (hgd : o.guard = none) (s x : Operand) (ho : o.op = .call { callee := .builtin .append, args := #[s, x], argTypes := #[SL, SL] }) (base : Nat) (v : Value) (n : Nat) (l : List α) (hn : n = l.length) (hs : a.eval s = v) (hown : w.ownsRow base E K.k v n (K.row l))
    (A : Option Addr) (m c : Nat) (b : List α) (hm : m = b.length) (hA : A = none → m = 0 ∧ c = 0) (hx : a.eval x = .slice A m c) (h2 : K.Rd w A b) (hb : n + m ≤ 1000000000) (hbase : base ≤ w.heap.size)
    (h : ∀ A' c' w', K.Grew E base v (n + m) (l ++ b) w (.slice A' (n + m) c') w' → wpList Tryz.prog ops Q rest (a.put o.dst (.slice A' (n + m) c')) w') : wpList Tryz.prog ops Q (o :: rest) a w := by
  refine wpList_plain hgd fun _ hK => ?_
  obtain ⟨v', w', e1, e2, e3, e4⟩ := Kd.append F w base v n l b o.type hn hown A m c hm hA h2 hb hbase
  unfold Oper.wp execOp
  simp only [ho, resolve, invoke, builtin, Sem.run_bind, Sem.run_pure, Result.andThen_ok, List.map_toArray, List.map_cons, List.map_nil, hs, hx, e1]
  obtain ⟨A', c', rfl⟩ := val_of e2
  exact hK _ _ (h A' c' w' ⟨e2, e3, e4, (Below.refl base w).grown e3 hbase (own_ge hown)⟩)
theorem Kd.rd_block {w : World} {g : Nat} {E : TypeId} {r : α} (hg : w.heap[g]? = some (.cells (K.enc r).toArray E (0, 0))) : K.Rd w (some ⟨g, 0, none⟩) [r] := fun _ => by
  refine ⟨g, 0, rfl, lt_of_block hg, fun i hi j hj => ?_⟩
  have e0 : i = 0 := by simpa using hi
  subst e0
  have e : (0 + 0 * K.k + j) = j := by omega
  rw [e, cell_of_row w g j _ E (0, 0) hg]
  simp
theorem Kd.wpList_one {E SL : TypeId} (F : K.Ty E SL) {rest : List Oper} (hgd : o.guard = none) (s x : Operand) (ho : o.op = .call { callee := .builtin .append, args := #[s, x], argTypes := #[SL, SL] }) (base : Nat) (v : Value) (n : Nat) (l : List α) (hn : n = l.length) (hs : a.eval s = v)
    (hown : w.ownsRow base E K.k v n (K.row l)) (g : Nat) (r : α) (hx : a.eval x = .slice (some ⟨g, 0, none⟩) 1 1) (hg : w.heap[g]? = some (.cells (K.enc r).toArray E (0, 0))) (hb : n ≤ 100000000) (hbase : base ≤ w.heap.size)
    (h : ∀ A' c' w', K.Grew E base v (n + 1) (l ++ [r]) w (.slice A' (n + 1) c') w' → wpList Tryz.prog ops Q rest (a.put o.dst (.slice A' (n + 1) c')) w') : wpList Tryz.prog ops Q (o :: rest) a w :=
  Kd.wpList_many F hgd s x ho base v n l hn hs hown _ 1 1 [r] rfl (fun e => by cases e) hx (Kd.rd_block hg) (by omega) hbase h
/-- At a step of a region that draws its order. -/
theorem Kd.step_many {E SL : TypeId} (F : K.Ty E SL) {L : Act → World → Prop} {X : Prop} (hgd : o.guard = none) (s x : Operand) (ho : o.op = .call { callee := .builtin .append, args := #[s, x], argTypes := #[SL, SL] }) (base : Nat) (v : Value) (n : Nat) (l : List α) (hn : n = l.length) (hs : a.eval s = v) (hown : w.ownsRow base E K.k v n (K.row l))
    (A : Option Addr) (m c : Nat) (b : List α) (hm : m = b.length) (hA : A = none → m = 0 ∧ c = 0) (hx : a.eval x = .slice A m c) (h2 : K.Rd w A b) (hb : n + m ≤ 1000000000) (hbase : base ≤ w.heap.size)
    (h : ∀ A' c' w', K.Grew E base v (n + m) (l ++ b) w (.slice A' (n + m) c') w' → L (a.put o.dst (.slice A' (n + m) c')) w') : if Region.wanted o (yielded ops a.tmps) = true then Oper.wp Tryz.prog o a w L Q else X := by
  have hw : Region.wanted o (yielded ops a.tmps) = true := by simp [Region.wanted, hgd]
  rw [if_pos hw]
  obtain ⟨v', w', e1, e2, e3, e4⟩ := Kd.append F w base v n l b o.type hn hown A m c hm hA h2 hb hbase
  unfold Oper.wp execOp
  simp only [ho, resolve, invoke, builtin, Sem.run_bind, Sem.run_pure, Result.andThen_ok, List.map_toArray, List.map_cons, List.map_nil, hs, hx, e1]
  obtain ⟨A', c', rfl⟩ := val_of e2
  exact h A' c' w' ⟨e2, e3, e4, (Below.refl base w).grown e3 hbase (own_ge hown)⟩
theorem Kd.step_one {E SL : TypeId} (F : K.Ty E SL) {L : Act → World → Prop} {X : Prop} (hgd : o.guard = none) (s x : Operand) (ho : o.op = .call { callee := .builtin .append, args := #[s, x], argTypes := #[SL, SL] }) (base : Nat) (v : Value) (n : Nat) (l : List α) (hn : n = l.length) (hs : a.eval s = v)
    (hown : w.ownsRow base E K.k v n (K.row l)) (g : Nat) (r : α) (hx : a.eval x = .slice (some ⟨g, 0, none⟩) 1 1) (hg : w.heap[g]? = some (.cells (K.enc r).toArray E (0, 0))) (hb : n ≤ 100000000) (hbase : base ≤ w.heap.size)
    (h : ∀ A' c' w', K.Grew E base v (n + 1) (l ++ [r]) w (.slice A' (n + 1) c') w' → L (a.put o.dst (.slice A' (n + 1) c')) w') : if Region.wanted o (yielded ops a.tmps) = true then Oper.wp Tryz.prog o a w L Q else X :=
  Kd.step_many F hgd s x ho base v n l hn hs hown _ 1 1 [r] rfl (fun e => by cases e) hx (Kd.rd_block hg) (by omega) hbase h
/-- 'l = append(l, ..)' where l is a variable in a box. -/
theorem Kd.box_step {w V w7 : World} {lb base : Nat} {E T : TypeId} {v v' : Value} {n0 n : Nat} {l0 l : List α} (h1 : w.heap[lb]? = some (.cells #[v] T (0, 0))) (hlb : lb < base) (h2 : w.ownsRow base E K.k v n0 (K.row l0)) (hV : Below w.heap.size w V) (hG : K.Grew E base v n l V v' w7) :
    (w7.setCell ⟨lb, 0, none⟩ v').heap[lb]? = some (.cells #[v'] T (0, 0)) ∧ (w7.setCell ⟨lb, 0, none⟩ v').ownsRow base E K.k v' n (K.row l) ∧ Frm (fun x => x = lb ∨ v.ownBlock = some x) w (w7.setCell ⟨lb, 0, none⟩ v') ∧ Sub (fun x => x = lb ∨ v.ownBlock = some x) (fun x => x = lb ∨ v'.ownBlock = some x) w.heap.size := by
  obtain ⟨ho, hg, hat, -⟩ := hG
  have z1 := lt_of_block h1
  have zV := hV.size
  have hge := own_ge h2
  have hge7 := own_ge ho
  have hF : Frm (fun x => x = lb ∨ v.ownBlock = some x) w w7 := (frm_of_below hV).grown hg (fun k hk => .inl (.inr hk))
  have hq : w7.heap[lb]? = some (.cells #[v] T (0, 0)) := (hg.block _ (by omega) (fun e => by have := hge _ e.symm; omega)).trans ((hV.block _ z1).trans h1)
  refine ⟨one_setCell hq, ownsRow_setCell_other ho (fun e => by have := hge7 _ e; simp only at this; omega) _, hF.setCell (p := ⟨lb, 0, none⟩) (.inl (.inl rfl)) _, ?_⟩
  rintro x (rfl | hx)
  · exact .inl (.inl rfl)
  · rcases hat with e | e
    · exact .inl (.inr (by rw [← e]; exact hx))
    · rw [e] at hx
      simp only [Option.some.injEq] at hx
      exact .inr (by omega)
theorem Kd.ty_of {E SL : TypeId} {z : Value} {b : Nat} (h : (Tryz.prog.info? E).map (fun i => (i.zero, i.size, i.bytes)) = some (some z, K.k, b)) (hb : b ≤ 140000) (hz : z.cells.size = K.k) (sl : Tryz.prog.underlying SL = some (.slice E)) : K.Ty E SL := by
  obtain ⟨i, hi, e⟩ := Option.map_eq_some_iff.1 h
  simp only [Prod.mk.injEq] at e
  exact ⟨⟨i, z, hi, e.1, e.2.1, by omega, hz⟩, sl⟩
end

/-- A struct stored into a box of its own. -/
theorem wpList_row {ops : Array Oper} {rest : List Oper} {o : Oper} {a : Act} {w : World} {Q : Exit → Act → World → Prop} (hgd : o.guard = none) (ty : TypeId) (x y : Operand) (ho : o.op = .store ty x y)
    (g : Nat) (cells : Array Value) (hx : a.eval x = .pointer (some ⟨g, 0, none⟩)) (hy : a.eval y = .agg cells)
    (t : TypeId) (old : Array Value) (hg : w.heap[g]? = some (.cells old t (0, 0))) (k : Nat) (hi : (Tryz.prog.info? ty).map (·.size) = some k) (hk : cells.size = k)
    (hold : old.size = k) (h1 : cells.toList.all (·.oneCell') = true)
    (h : ∀ w', w'.heap[g]? = some (.cells cells t (0, 0)) → Frm (fun b => b = g) w w' → wpList Tryz.prog ops Q rest (a.put o.dst undef) w') : wpList Tryz.prog ops Q (o :: rest) a w :=
  wpList_store_row hgd ty x y ho g cells hx hy t old hg (by rw [hk]; exact hi) (by rw [hk]; exact hold) (by rw [← Array.all_toList]; exact h1) (h _ (setRow_heap w g old cells t _ hg) ⟨rfl, rfl, rfl, by simp [World.setRow], fun k _ hn => setRow_other w g k cells hn⟩)

/-- Where a part of a row lies. -/
def cutK (s : Nat) (A : Option Addr) (c k : Nat) : Option Addr := if c = k then A else A.map (·.add (k * s))
section
variable {α : Type} {K : Kd α}
theorem Kd.slice_lh {E SL : TypeId} (F : K.Ty E SL) (A : Option Addr) (n c : Nat) (l h : Int) (h0 : 0 ≤ l) (h1 : l ≤ h) (h2 : h ≤ c) (w : World) :
    (Instr.slice SL (.slice A n c) (some (.int .i64 l)) (some (.int .i64 h)) none).run Tryz.prog w = .ok (.slice (cutK K.k A c l.toNat) (h.toNat - l.toNat) (c - l.toNat)) w := by
  obtain ⟨i0, z0, hi0, hz0, hz1, hz2, hz3⟩ := F.info
  have e : Tryz.prog.elem SL = E := by simp [Program.elem, F.sl]
  rw [run_slice_lh w SL A n c (by rw [e]; exact F.sl) .i64 .i64 l h h0 h1 h2, e]
  simp [sizeOf, typeInfo, hi0, hz1, cutK, sliced]
theorem Kd.slice_to {E SL : TypeId} (F : K.Ty E SL) (A : Option Addr) (n c : Nat) (h : Int) (h0 : 0 ≤ h) (h2 : h ≤ c) (w : World) :
    (Instr.slice SL (.slice A n c) none (some (.int .i64 h)) none).run Tryz.prog w = .ok (.slice A h.toNat c) w := by
  obtain ⟨i0, z0, hi0, hz0, hz1, hz2, hz3⟩ := F.info
  have e : Tryz.prog.elem SL = E := by simp [Program.elem, F.sl]
  rw [run_slice_h w SL A n c (by rw [e]; exact F.sl) .i64 h h0 h2, e]
  have ez : A.map (fun x => x.add 0) = A := by
    cases A with
    | none => rfl
    | some x => obtain ⟨g, o, r⟩ := x; cases r <;> simp [Addr.add]
  simp [sizeOf, typeInfo, hi0, hz1, sliced, ez]
theorem Kd.slice_from {E SL : TypeId} (F : K.Ty E SL) (A : Option Addr) (n c : Nat) (l : Int) (h0 : 0 ≤ l) (h1 : l ≤ n) (w : World) :
    (Instr.slice SL (.slice A n c) (some (.int .i64 l)) none none).run Tryz.prog w = .ok (.slice (cutK K.k A c l.toNat) (n - l.toNat) (c - l.toNat)) w := by
  obtain ⟨i0, z0, hi0, hz0, hz1, hz2, hz3⟩ := F.info
  have e : Tryz.prog.elem SL = E := by simp [Program.elem, F.sl]
  rw [run_slice_l w SL A n c (by rw [e]; exact F.sl) .i64 l h0 h1, e]
  simp [sizeOf, typeInfo, hi0, hz1, cutK, sliced]
theorem Kd.Rd.cut {w : World} {A : Option Addr} {l : List α} (h : K.Rd w A l) (c k : Nat) (hc : l.length ≤ c) : K.Rd w (cutK K.k A c k) (l.drop k) := fun hl => by
  have hk : k < l.length := by
    rcases Nat.lt_or_ge k l.length with e | e
    · exact e
    · exact absurd (List.drop_eq_nil_of_le e) hl
  obtain ⟨g, off, rfl, -⟩ := h (by rintro rfl; cases hk)
  have e : cutK K.k (some ⟨g, off, none⟩) c k = some ⟨g, off + k * K.k, none⟩ := by
    unfold cutK
    rw [if_neg (by omega), Option.map_some]
    congr 1
    unfold Addr.add
    split <;> simp_all
  rw [e]
  exact h.drop k hl
end

end Go.Proofs.YtcbfppangiopeaaGreat

namespace Go.Proofs.YtcbfppangiopeaaGreat
open Go.RowKit Go.Maps
set_option maxRecDepth 100000

def lgK (L : List Pr) (a : Ad) (k : Nat) : Option Pr := ((L.take k).filter fun x => pcon x.p a).getLast?
theorem lgK_succ (L : List Pr) (a : Ad) {k : Nat} (h : k < L.length) : lgK L a (k + 1) = if pcon L[k].p a = true then some L[k] else lgK L a k := by
  unfold lgK
  rw [List.take_succ_eq_append_getElem h, List.filter_append]
  by_cases hc : pcon L[k].p a = true
  · have e : [L[k]].filter (fun x => pcon x.p a) = [L[k]] := by simp [hc]
    rw [if_pos hc, e]
    simp
  · have e : [L[k]].filter (fun x => pcon x.p a) = [] := by simp [hc]
    rw [if_neg hc, e]
    simp
theorem lgK_all (L : List Pr) (a : Ad) : lgK L a L.length = longL L a := by
  unfold lgK longL
  rw [List.take_length]
theorem lgK_lt {L : List Pr} (hs : Srt L) {a : Ad} {k : Nat} (h : k < L.length) {b : Pr} (hb : lgK L a k = some b) (hc : pcon L[k].p a = true) : b.p.n < L[k].p.n := by
  unfold lgK at hb
  have hm := List.mem_of_getLast? hb
  obtain ⟨h1, h2⟩ := List.mem_filter.1 hm
  obtain ⟨j, hj, rfl⟩ := List.mem_iff_getElem.1 h1
  rw [List.length_take] at hj
  rw [List.getElem_take] at h2 ⊢
  exact con_lt' h2 hc (List.pairwise_iff_getElem.1 hs.2 j k (by omega) h (by omega))
def PBlk (w : World) (b : Nat) (x : Pr) : Prop := w.heap[b]? = some (.cells #[.int .u64 (u x.p.a.hi), .int .u64 (u x.p.a.lo), .bool x.p.a.v6, .int .i64 x.p.n, .int .i64 x.v] 104 (0, 0))
theorem PBlk.keep {w w' : World} {b : Nat} {x : Pr} (h : PBlk w b x) (hb : Below w.heap.size w w') : PBlk w' b x := (hb.block _ (lt_of_block h)).trans h
theorem PBlk.five {w : World} {b : Nat} {x : Pr} (h : PBlk w b x) : w.cell? ⟨b, 0, none⟩ = some (.int .u64 (u x.p.a.hi)) ∧ w.cell? ⟨b, 1, none⟩ = some (.int .u64 (u x.p.a.lo)) ∧ w.cell? ⟨b, 2, none⟩ = some (.bool x.p.a.v6) ∧ w.cell? ⟨b, 3, none⟩ = some (.int .i64 x.p.n) ∧ w.cell? ⟨b, 4, none⟩ = some (.int .i64 x.v) ∧ b < w.heap.size :=
  ⟨(cell_of_row w b 0 _ _ _ h).trans rfl, (cell_of_row w b 1 _ _ _ h).trans rfl, (cell_of_row w b 2 _ _ _ h).trans rfl, (cell_of_row w b 3 _ _ _ h).trans rfl, (cell_of_row w b 4 _ _ _ h).trans rfl, lt_of_block h⟩
theorem size_kpair : (Tryz.prog.info? 104).map (·.size) = some 5 := by kernel_rfl
variable {w : World} {A : Option Addr} {L : List Pr} {c : Nat}
set_option maxHeartbeats 4000000 in
theorem klongest_any (hr : RdQ w A L) (hsr : Srt L) (hl : L.length ≤ 10000) (most : Int) (a : Ad) : Calls Tryz.prog 50 #[.agg #[.slice A L.length c, .int .i64 most], .agg #[.int .u64 (u a.hi), .int .u64 (u a.lo), .bool a.v6]] w (OptPost w (longL L a)) := by
  have HR := Lib.hid hr
  have HL := Lib.hid hl
  have HS := Lib.hid hsr
  clear hr hl hsr
  unfold OptPost
  go_enter Tryz.func50, Tryz.ntmps50
  go_upto_region 1 with fail
  generalize hV : World.alloc _ _ = w1
  have b1 : Below w.heap.size w w1 := by subst hV; go_grown
  have HT1 : Hid (KBox w1 w.heap.size A L.length c most) := Lib.hid (by subst hV; exact ⟨by go_simp <;> rfl, by go_simp <;> rfl, by go_size⟩)
  have HA1 : Hid (ABox w1 (w.heap.size + 1) a) := Lib.hid (by subst hV; exact ⟨by go_simp <;> rfl, by go_simp <;> rfl, by go_simp <;> rfl, by go_size⟩)
  have HQ1 : Hid (PBlk w1 (w.heap.size + 1 + 1) nilPr) := Lib.hid (by subst hV; unfold PBlk; repeat (first | (refine hp_new ?_; (simp; done)) | (refine hp_old ?_ ?_; · (first | (simp; done) | (simp; omega)))))
  have HR1 := Lib.hid (HR.out.keep b1 (Nat.le_refl _))
  have zq := lt_of_block HQ1.out
  clear hV HR
  go_upto_region 2 with fail
  generalize hV : World.alloc _ _ = w2
  have e2 : Below w1.heap.size w1 w2 := by subst hV; go_grown
  have HB2 : Hid (PBlk w2 w1.heap.size nilPr) := Lib.hid (by subst hV; unfold PBlk; repeat (first | (refine hp_new ?_; (simp; done)) | (refine hp_old ?_ ?_; · (first | (simp; done) | (simp; omega)))))
  clear hV
  obtain ⟨k0, k1, kz⟩ := id (HT1.out.keep e2)
  go_wp2_with fail
  clear k0 k1 kz
  go_loopw [7, 8] (fun okv i wr => ∃ k : Nat, okv = .bool (lgK L a k).isSome ∧ k ≤ L.length ∧ i = .int .i64 k ∧ Hid (PBlk wr w1.heap.size ((lgK L a k).getD nilPr)) ∧ Below w1.heap.size w1 wr) (fun _ i _ => L.length - (RowKit.intOf i).toNat)
  case atStart => exact ⟨0, rfl, Nat.zero_le _, rfl, HB2, e2⟩
  case round =>
    obtain ⟨k, rfl, hk, rfl, hb, hB⟩ := hrel
    have hk9 : k ≤ 10000 := by have := HL.out; omega
    obtain ⟨W, rfl⟩ : ∃ W, W = wr := ⟨_, rfl⟩
    have HB := Lib.hid hB
    have HTW := Lib.hid (HT1.out.keep hB)
    have HAW := Lib.hid (HA1.out.keep hB)
    obtain ⟨k0, k1, kz⟩ := id HTW.out
    have zW := hB.size
    clear e2 HB2
    by_cases hlt : k < L.length
    · have hlt' : decide ((k : Int) < (L.length : Int)) = true := decide_eq_true (by omega)
      obtain ⟨g, off, hA, hX⟩ := rdq_fbox (HR1.out.keep hB (Nat.le_refl _)) hlt
      subst hA
      have hi1 := fun V => idx_rpair g off L.length c k hlt V
      have hsu := lgK_succ L a hlt
      have hgt := fun b (h : lgK L a k = some b) hc => lgK_lt HS.out hlt h hc
      obtain ⟨x, hx⟩ : ∃ x, L[k] = x := ⟨_, rfl⟩
      rw [hx] at hX hsu
      have hgt2 : ∀ b, lgK L a k = some b → pcon x.p a = true → b.p.n < x.p.n := fun b h hc => by
        have := hgt b h (by rw [hx]; exact hc)
        rwa [hx] at this
      have HSU := Lib.hid hsu
      have HLT := Lib.hid hlt
      have HX := Lib.hid hX
      have HGT := Lib.hid hgt2
      have cj := fun V => rpcon_any x.p a V
      clear hgt hgt2 hsu hx hlt hk hB k1
      cases hbo : lgK L a k
      all_goals
        rw [hbo] at hb
        have HBO := Lib.hid hbo
        clear hbo
        cases hcc : pcon x.p a
      all_goals
        rw [hcc] at cj
        have CJ := Lib.hid cj
        have HCC := Lib.hid hcc
        clear cj hcc
      · obtain ⟨m0, m1, m2, m3, m4, zm⟩ := id HX.out
        obtain ⟨pa, pb, pc, pz⟩ := id HAW.out
        obtain ⟨n0, n1, n2, n3, n4, zn⟩ := hb.out.five
        have Lk0 := fun q : Later W.heap.size W => (q.cell kz).trans k0
        have Lm0 := fun q : Later W.heap.size W => (q.cell (p := ⟨g, off + k * 5, none⟩) zm).trans m0
        have Lm1 := fun q : Later W.heap.size W => (q.cell (p := ⟨g, off + k * 5 + 1, none⟩) zm).trans m1
        have Lm2 := fun q : Later W.heap.size W => (q.cell (p := ⟨g, off + k * 5 + 2, none⟩) zm).trans m2
        have Lm3 := fun q : Later W.heap.size W => (q.cell (p := ⟨g, off + k * 5 + 3, none⟩) zm).trans m3
        have Lpa := fun q : Later W.heap.size W => (q.cell pz).trans pa
        have Lpb := fun q : Later W.heap.size W => (q.cell pz).trans pb
        have Lpc := fun q : Later W.heap.size W => (q.cell pz).trans pc
        have Ln3 := fun q : Later W.heap.size W => (q.cell zn).trans n3
        go_upto_region 6 with fail
        clear hlt' m0 m1 m2 m3 m4 pa pb pc n0 n1 n2 n3 n4 k0
        refine region_later W.heap.size (by kernel_rfl) (by kernel_rfl) ?_
        repeat (go_big_quiet_step ((go_at_call 78; exact later_of (Nat.le_refl _) (CJ.out _))))
        refine wpQuiet_nil ?_
        intro q
        have hq := q.below
        generalize q.at = V at hq ⊢
        clear q Lk0 Lm0 Lm1 Lm2 Lm3 Lpa Lpb Lpc Ln3
        have bV := HB.out.trans (hq.mono HB.out.size)
        have zV := bV.size
        have HBV := Lib.hid (hb.out.keep hq)
        obtain ⟨m0, m1, m2, m3, m4, zm⟩ := HX.out.keep hq
        obtain ⟨k0, -, kz⟩ := HTW.out.keep hq
        clear hq zW
        clear m0 m1 m2 m3 m4 k0 hi1
        go_wp2
        go_roundw
        case rel => exact ⟨k + 1, by rw [HSU.out, HCC.out, HBO.out]; rfl, HLT.out, by go_num, Lib.hid (by rw [HSU.out, HCC.out, HBO.out]; exact HBV.out), bV⟩
        case measure => simp [RowKit.intOf]; have := HLT.out; omega
      · obtain ⟨m0, m1, m2, m3, m4, zm⟩ := id HX.out
        obtain ⟨pa, pb, pc, pz⟩ := id HAW.out
        obtain ⟨n0, n1, n2, n3, n4, zn⟩ := hb.out.five
        have Lk0 := fun q : Later W.heap.size W => (q.cell kz).trans k0
        have Lm0 := fun q : Later W.heap.size W => (q.cell (p := ⟨g, off + k * 5, none⟩) zm).trans m0
        have Lm1 := fun q : Later W.heap.size W => (q.cell (p := ⟨g, off + k * 5 + 1, none⟩) zm).trans m1
        have Lm2 := fun q : Later W.heap.size W => (q.cell (p := ⟨g, off + k * 5 + 2, none⟩) zm).trans m2
        have Lm3 := fun q : Later W.heap.size W => (q.cell (p := ⟨g, off + k * 5 + 3, none⟩) zm).trans m3
        have Lpa := fun q : Later W.heap.size W => (q.cell pz).trans pa
        have Lpb := fun q : Later W.heap.size W => (q.cell pz).trans pb
        have Lpc := fun q : Later W.heap.size W => (q.cell pz).trans pc
        have Ln3 := fun q : Later W.heap.size W => (q.cell zn).trans n3
        go_upto_region 6 with fail
        clear hlt' m0 m1 m2 m3 m4 pa pb pc n0 n1 n2 n3 n4 k0
        refine region_later W.heap.size (by kernel_rfl) (by kernel_rfl) ?_
        repeat (go_big_quiet_step ((go_at_call 78; exact later_of (Nat.le_refl _) (CJ.out _))))
        refine wpQuiet_nil ?_
        intro q
        have hq := q.below
        generalize q.at = V at hq ⊢
        clear q Lk0 Lm0 Lm1 Lm2 Lm3 Lpa Lpb Lpc Ln3
        have bV := HB.out.trans (hq.mono HB.out.size)
        have zV := bV.size
        have HBV := Lib.hid (hb.out.keep hq)
        obtain ⟨m0, m1, m2, m3, m4, zm⟩ := HX.out.keep hq
        obtain ⟨k0, -, kz⟩ := HTW.out.keep hq
        clear hq zW
        go_upto_region 7 with fail
        go_wp2_with (refine wpList_row rfl _ _ _ rfl w1.heap.size _ rfl rfl 104 _ (HBV.out) 5 size_kpair rfl rfl rfl ?_; intro w9 h9 f9; have b9 : Below w1.heap.size w1 w9 := bV.trans (f9.below (fun b hb => by omega) (by omega)); have H9 := Lib.hid h9; clear h9 f9 m0 m1 m2 m3 m4 k0 hi1)
        go_roundw
        case rel => exact ⟨k + 1, by rw [HSU.out, HCC.out]; rfl, HLT.out, by go_num, Lib.hid (by rw [HSU.out, HCC.out]; exact H9.out), b9⟩
        case measure => simp [RowKit.intOf]; have := HLT.out; omega
      · obtain ⟨m0, m1, m2, m3, m4, zm⟩ := id HX.out
        obtain ⟨pa, pb, pc, pz⟩ := id HAW.out
        obtain ⟨n0, n1, n2, n3, n4, zn⟩ := hb.out.five
        have Lk0 := fun q : Later W.heap.size W => (q.cell kz).trans k0
        have Lm0 := fun q : Later W.heap.size W => (q.cell (p := ⟨g, off + k * 5, none⟩) zm).trans m0
        have Lm1 := fun q : Later W.heap.size W => (q.cell (p := ⟨g, off + k * 5 + 1, none⟩) zm).trans m1
        have Lm2 := fun q : Later W.heap.size W => (q.cell (p := ⟨g, off + k * 5 + 2, none⟩) zm).trans m2
        have Lm3 := fun q : Later W.heap.size W => (q.cell (p := ⟨g, off + k * 5 + 3, none⟩) zm).trans m3
        have Lpa := fun q : Later W.heap.size W => (q.cell pz).trans pa
        have Lpb := fun q : Later W.heap.size W => (q.cell pz).trans pb
        have Lpc := fun q : Later W.heap.size W => (q.cell pz).trans pc
        have Ln3 := fun q : Later W.heap.size W => (q.cell zn).trans n3
        go_upto_region 6 with fail
        clear hlt' m0 m1 m2 m3 m4 pa pb pc n0 n1 n2 n3 n4 k0
        refine region_later W.heap.size (by kernel_rfl) (by kernel_rfl) ?_
        repeat (go_big_quiet_step ((go_at_call 78; exact later_of (Nat.le_refl _) (CJ.out _))))
        refine wpQuiet_nil ?_
        intro q
        have hq := q.below
        generalize q.at = V at hq ⊢
        clear q Lk0 Lm0 Lm1 Lm2 Lm3 Lpa Lpb Lpc Ln3
        have bV := HB.out.trans (hq.mono HB.out.size)
        have zV := bV.size
        have HBV := Lib.hid (hb.out.keep hq)
        obtain ⟨m0, m1, m2, m3, m4, zm⟩ := HX.out.keep hq
        obtain ⟨k0, -, kz⟩ := HTW.out.keep hq
        clear hq zW
        clear m0 m1 m2 m3 m4 k0 hi1
        go_wp2
        go_roundw
        case rel => exact ⟨k + 1, by rw [HSU.out, HCC.out, HBO.out]; rfl, HLT.out, by go_num, Lib.hid (by rw [HSU.out, HCC.out, HBO.out]; exact HBV.out), bV⟩
        case measure => simp [RowKit.intOf]; have := HLT.out; omega
      · rename_i b
        have tgt : decide (b.p.n < x.p.n) = true := decide_eq_true (HGT.out b HBO.out HCC.out)
        obtain ⟨m0, m1, m2, m3, m4, zm⟩ := id HX.out
        obtain ⟨pa, pb, pc, pz⟩ := id HAW.out
        obtain ⟨n0, n1, n2, n3, n4, zn⟩ := hb.out.five
        have Lk0 := fun q : Later W.heap.size W => (q.cell kz).trans k0
        have Lm0 := fun q : Later W.heap.size W => (q.cell (p := ⟨g, off + k * 5, none⟩) zm).trans m0
        have Lm1 := fun q : Later W.heap.size W => (q.cell (p := ⟨g, off + k * 5 + 1, none⟩) zm).trans m1
        have Lm2 := fun q : Later W.heap.size W => (q.cell (p := ⟨g, off + k * 5 + 2, none⟩) zm).trans m2
        have Lm3 := fun q : Later W.heap.size W => (q.cell (p := ⟨g, off + k * 5 + 3, none⟩) zm).trans m3
        have Lpa := fun q : Later W.heap.size W => (q.cell pz).trans pa
        have Lpb := fun q : Later W.heap.size W => (q.cell pz).trans pb
        have Lpc := fun q : Later W.heap.size W => (q.cell pz).trans pc
        have Ln3 := fun q : Later W.heap.size W => (q.cell zn).trans n3
        go_upto_region 6 with fail
        clear hlt' m0 m1 m2 m3 m4 pa pb pc n0 n1 n2 n3 n4 k0
        refine region_later W.heap.size (by kernel_rfl) (by kernel_rfl) ?_
        repeat (go_big_quiet_step ((go_at_call 78; exact later_of (Nat.le_refl _) (CJ.out _))))
        refine wpQuiet_nil ?_
        intro q
        have hq := q.below
        generalize q.at = V at hq ⊢
        clear q Lk0 Lm0 Lm1 Lm2 Lm3 Lpa Lpb Lpc Ln3
        have bV := HB.out.trans (hq.mono HB.out.size)
        have zV := bV.size
        have HBV := Lib.hid (hb.out.keep hq)
        obtain ⟨m0, m1, m2, m3, m4, zm⟩ := HX.out.keep hq
        obtain ⟨k0, -, kz⟩ := HTW.out.keep hq
        clear hq zW
        go_upto_region 7 with fail
        go_wp2_with (refine wpList_row rfl _ _ _ rfl w1.heap.size _ rfl rfl 104 _ (HBV.out) 5 size_kpair rfl rfl rfl ?_; intro w9 h9 f9; have b9 : Below w1.heap.size w1 w9 := bV.trans (f9.below (fun b hb => by omega) (by omega)); have H9 := Lib.hid h9; clear h9 f9 m0 m1 m2 m3 m4 k0 hi1)
        go_roundw
        case rel => exact ⟨k + 1, by rw [HSU.out, HCC.out]; rfl, HLT.out, by go_num, Lib.hid (by rw [HSU.out, HCC.out]; exact H9.out), b9⟩
        case measure => simp [RowKit.intOf]; have := HLT.out; omega
    · obtain rfl : k = L.length := by omega
      have hlt' : decide ((L.length : Int) < (L.length : Int)) = false := by simp
      rw [lgK_all] at hb ⊢
      have HQW := Lib.hid (HQ1.out.keep hB)
      have bW := b1.trans (hB.mono b1.size)
      have z1 := b1.size
      clear hlt hk hB
      obtain ⟨n0, n1, n2, n3, n4, zn⟩ := hb.out.five
      go_upto_region 9 with fail
      go_wp2_with (refine wpList_row rfl _ _ _ rfl (w.heap.size + 1 + 1) _ rfl rfl 104 _ (HQW.out) 5 size_kpair rfl rfl rfl ?_; intro w9 h9 f9; have b9 : Below w.heap.size w w9 := bW.trans (f9.below (fun b hb => by omega) (by omega)); have q0 := cell_row (i := 0) h9; have q1 := cell_row (i := 1) h9; have q2 := cell_row (i := 2) h9; have q3 := cell_row (i := 3) h9; have q4 := cell_row (i := 4) h9; simp at q0 q1 q2 q3 q4; clear f9)
      refine bodyPost_ret (v := .tuple #[.agg #[.int .u64 (u ((longL L a).getD nilPr).p.a.hi), .int .u64 (u ((longL L a).getD nilPr).p.a.lo), .bool ((longL L a).getD nilPr).p.a.v6, .int .i64 ((longL L a).getD nilPr).p.n, .int .i64 ((longL L a).getD nilPr).v], .bool (longL L a).isSome]) (by simp [*, results, Tryz.results50, go_sem] <;> rfl) rfl ⟨rfl, b9⟩

end Go.Proofs.YtcbfppangiopeaaGreat

namespace Go.Proofs.YtcbfppangiopeaaGreat
open Go.RowKit
set_option maxRecDepth 100000

theorem row6_set {w : World} {b : Nat} {x0 x1 x2 x3 x4 x5 y0 y1 y2 y3 y4 y5 : Value} {e : TypeId} (h : w.heap[b]? = some (.cells #[x0, x1, x2, x3, x4, x5] e (0, 0))) :
    ((((((w.setCell ⟨b, 0, none⟩ y0).setCell ⟨b, 1, none⟩ y1).setCell ⟨b, 2, none⟩ y2).setCell ⟨b, 3, none⟩ y3).setCell ⟨b, 4, none⟩ y4).setCell ⟨b, 5, none⟩ y5).heap[b]? = some (.cells #[y0, y1, y2, y3, y4, y5] e (0, 0)) :=
  heap_setCell_same _ b 5 _ e y5 (heap_setCell_same _ b 4 _ e y4 (heap_setCell_same _ b 3 _ e y3 (heap_setCell_same _ b 2 _ e y2 (heap_setCell_same _ b 1 _ e y1 (heap_setCell_same w b 0 _ e y0 h)))))
theorem below_put6 {B b : Nat} {w w1 : World} {y0 y1 y2 y3 y4 y5 : Value} (h : Below B w w1) (hb : B ≤ b) : Below B w ((((((w1.setCell ⟨b, 0, none⟩ y0).setCell ⟨b, 1, none⟩ y1).setCell ⟨b, 2, none⟩ y2).setCell ⟨b, 3, none⟩ y3).setCell ⟨b, 4, none⟩ y4).setCell ⟨b, 5, none⟩ y5) :=
  (((((h.setCell (p := ⟨b, 0, none⟩) hb _).setCell (p := ⟨b, 1, none⟩) hb _).setCell (p := ⟨b, 2, none⟩) hb _).setCell (p := ⟨b, 3, none⟩) hb _).setCell (p := ⟨b, 4, none⟩) hb _).setCell (p := ⟨b, 5, none⟩) hb _
theorem six10 {w : World} {b : Nat} {x0 x1 x2 x3 x4 x5 : Value} {e : TypeId} (h : w.heap[b]? = some (.cells #[x0, x1, x2, x3, x4, x5] e (0, 0))) :
    w.cell? ⟨b, 0, none⟩ = some x0 ∧ w.cell? ⟨b, 1, none⟩ = some x1 ∧ w.cell? ⟨b, 2, none⟩ = some x2 ∧ w.cell? ⟨b, 3, none⟩ = some x3 ∧ w.cell? ⟨b, 4, none⟩ = some x4 ∧ w.cell? ⟨b, 5, none⟩ = some x5 ∧ w.frozen? ⟨b, 0, none⟩ = false ∧ w.frozen? ⟨b, 1, none⟩ = false ∧ w.frozen? ⟨b, 2, none⟩ = false ∧ w.frozen? ⟨b, 3, none⟩ = false ∧ w.frozen? ⟨b, 4, none⟩ = false ∧ w.frozen? ⟨b, 5, none⟩ = false ∧ b < w.heap.size :=
  ⟨by rw [cell_row h]; rfl, by rw [cell_row h]; rfl, by rw [cell_row h]; rfl, by rw [cell_row h]; rfl, by rw [cell_row h]; rfl, by rw [cell_row h]; rfl, frozen_of_row _ _ _ _ _ h, frozen_of_row _ _ _ _ _ h, frozen_of_row _ _ _ _ _ h, frozen_of_row _ _ _ _ _ h, frozen_of_row _ _ _ _ _ h, frozen_of_row _ _ _ _ _ h, lt_of_block h⟩

end Go.Proofs.YtcbfppangiopeaaGreat

namespace Go.Proofs.YtcbfppangiopeaaGreat
open Go.RowKit
set_option maxRecDepth 100000

theorem own_empty {w : World} {g : Nat} {E : TypeId} {k : Nat} (hg : w.heap[g]? = some (.cells #[] E (0, 0))) (base : Nat) (hb : base ≤ g) : w.ownsRow base E k (.slice (some ⟨g, 0, none⟩) 0 0) 0 [] :=
  ⟨by simp, .inr ⟨g, 0, #[], rfl, hb, hg, Nat.le_refl _, Nat.zero_le _, by simp, by simp⟩⟩
theorem own_low {w : World} {base base' : Nat} {e : TypeId} {size n : Nat} {v : Value} {xs : List Value} (h : w.ownsRow base e size v n xs) (hb : base' ≤ base) : w.ownsRow base' e size v n xs := by
  refine ⟨h.1, h.2.imp id ?_⟩
  rintro ⟨g, cap, cur, e1, e2, e3⟩
  exact ⟨g, cap, cur, e1, Nat.le_trans hb e2, e3⟩
theorem own_far {w : World} {base : Nat} {e : TypeId} {size n : Nat} {v : Value} {xs : List Value} (h : w.ownsRow base e size v n xs) {p : Addr} (hp : p.block < base) (u : Value) : (w.setCell p u).ownsRow base e size v n xs :=
  ownsRow_setCell_other h (fun e => by have := own_ge h _ e; omega) u
theorem row4_set {w : World} {b : Nat} {x0 x1 x2 x3 y0 y1 y2 y3 : Value} {e : TypeId} (h : w.heap[b]? = some (.cells #[x0, x1, x2, x3] e (0, 0))) :
    ((((w.setCell ⟨b, 0, none⟩ y0).setCell ⟨b, 1, none⟩ y1).setCell ⟨b, 2, none⟩ y2).setCell ⟨b, 3, none⟩ y3).heap[b]? = some (.cells #[y0, y1, y2, y3] e (0, 0)) :=
  heap_setCell_same _ b 3 _ e y3 (heap_setCell_same _ b 2 _ e y2 (heap_setCell_same _ b 1 _ e y1 (heap_setCell_same w b 0 _ e y0 h)))
theorem far_apart {w6 w10 V w14 : World} {o6 o14 : Option Nat} {n : Nat} (h1 : Below w6.heap.size w6 w10) (h2 : Below w10.heap.size w10 V) (_ : Below V.heap.size V w14) (hl : ∀ b, o6 = some b → b < w6.heap.size) (hn : 0 < n → ∀ b, o14 = some b → V.heap.size ≤ b) : 0 < n → ∀ b, o6 = some b → o14 ≠ some b := fun h0 b e1 e2 => by
  have := hl b e1
  have := hn h0 b e2
  have := h1.size
  have := h2.size
  omega
theorem apart_zero {w : World} {base m c6 c14 n : Nat} {E E' : TypeId} {A6 A14 : Option Addr} {xs ys : List Value} (hA : w.ownsRow base E 1 (.slice A6 m c6) m xs) (hC : w.ownsRow base E' 1 (.slice A14 n c14) n ys) (hm : 0 < m) (h0 : c14 = 0) : ∀ b, (Value.slice A6 m c6).ownBlock = some b → (Value.slice A14 n c14).ownBlock ≠ some b := by
  subst h0
  intro b e1 e2
  rcases hA.2 with ⟨e, -⟩ | ⟨g, cap, cur, e, -, h1, h2, -, h3, -⟩
  · simp at e
    omega
  · rcases hC.2 with ⟨e', -⟩ | ⟨g', cap', cur', e', -, h1', h2', -, h3', -⟩
    · rw [e'] at e2
      simp [Value.ownBlock] at e2
    · rw [e] at e1
      rw [e'] at e2
      simp only [Value.ownBlock, Option.some.injEq] at e1 e2
      subst e1
      subst e2
      rw [h1] at h1'
      simp only [Option.some.injEq, Obj.cells.injEq, and_true] at h1'
      simp only [Value.slice.injEq] at e'
      rw [← h1'.1] at h3'
      omega
/-- A fresh empty row lies there. -/
def Emp (w : World) (g : Nat) (T : TypeId) : Prop := w.heap[g]? = some (.cells #[] T (0, 0))
theorem Emp.made {w : World} {g : Nat} {T : TypeId} (h : g = w.heap.size) : Emp (w.alloc (.cells #[] T (0, 0))) g T := hp_new h
theorem Emp.drew {w : World} {g : Nat} {T : TypeId} (h : Emp w g T) : Emp w.drew g T := h
theorem Emp.alloc {w : World} {g : Nat} {T : TypeId} {o : Obj} (h : Emp w g T) : Emp (w.alloc o) g T := hp_old (lt_of_block h) h
theorem Emp.below {w w' : World} {g : Nat} {T : TypeId} (h : Emp w g T) (hb : Below w.heap.size w w') : Emp w' g T := (hb.block _ (lt_of_block h)).trans h
theorem below_alloc {B : Nat} {a w : World} {o : Obj} (h : Below B a w) (hB : B ≤ a.heap.size) : Below B a (w.alloc o) := h.alloc (Nat.le_trans hB h.size) o
section
variable {α : Type} {K : Kd α}
theorem Kd.append0 {E SL : TypeId} (F : K.Ty E SL) (W : World) (base g : Nat) (hg : W.heap[g]? = some (.cells #[] E (0, 0))) (hbg : base ≤ g) (b : List α) (ty : TypeId) (A : Option Addr) (m c : Nat) (hm : m = b.length) (hA : A = none → m = 0 ∧ c = 0) (h2 : K.Rd W A b) (hb : m ≤ 1000000000) :
    ∃ v' w', (Builtin.append_ #[SL, SL] ty #[.slice (some ⟨g, 0, none⟩) 0 0, .slice A m c]).run Tryz.prog W = .ok v' w' ∧ w'.ownsRow base E K.k v' m (K.row b) ∧ Below W.heap.size W w' ∧ (0 < m → ∀ k, v'.ownBlock = some k → W.heap.size ≤ k) ∧ (m = 0 → v' = .slice (some ⟨g, 0, none⟩) 0 0) := by
  obtain ⟨i0, z0, hi0, hz0, hz1, hz2, hz3⟩ := F.info
  have hgz := lt_of_block hg
  rcases Nat.eq_zero_or_pos m with h0 | h0
  · subst h0
    have e : b = [] := List.eq_nil_of_length_eq_zero hm.symm
    subst e
    refine ⟨.slice (some ⟨g, 0, none⟩) 0 0, W, ?_, own_empty hg base hbg, Below.refl _ _, fun h => absurd h (Nat.lt_irrefl _), fun _ => rfl⟩
    cases A with
    | none => simp [Builtin.append_, run_underlying F.sl, sizeOf, typeInfo, hi0, Builtin.lenOf, Builtin.firstCells, storeCells]
    | some ad => simp [Builtin.append_, run_underlying F.sl, sizeOf, typeInfo, hi0, Builtin.lenOf, Builtin.firstCells, storeCells, loadCells, loadCellsFrom]
  · cases A with
    | none => have := (hA rfl).1; omega
    | some ad =>
      subst hm
      have hsize : base ≤ W.heap.size := by omega
      have hown := own_empty (k := K.k) hg base hbg
      obtain ⟨v', w', e1, e2, e3, _, e5⟩ := run_append_own_at (P := Tryz.prog) W base SL ty E i0 z0 K.k i0.bytes F.sl hi0 hz0 hz1 rfl hz3 K.pos _ 0 [] hown ad b.length c (K.row b) (K.row_len b) h2.news (K.row_cell b) (by simp only [maxLen]; omega) (by rw [Nat.zero_add]; exact Nat.le_trans (Nat.mul_le_mul hb hz2) (by decide)) hsize
      have hr := run_append_grow (P := Tryz.prog) W SL ty E i0 z0 F.sl hi0 hz0 ⟨g, 0, none⟩ 0 0 [] (by simp) (fun j u hj => by simp at hj) ad b.length c (K.row b) (by rw [hz1]; exact K.row_len b) h2.news (by omega) (by omega) (growslice_fits (by omega) (by rw [Nat.zero_add]; exact Nat.le_trans (Nat.mul_le_mul hb hz2) (by decide)))
      rw [e1] at hr
      simp only [Result.ok.injEq] at hr
      obtain ⟨rfl, rfl⟩ := hr
      exact ⟨_, _, e1, by simpa using e2, ((Below.refl _ _).drew).alloc (Nat.le_refl _) _, fun _ k hk => by simp only [Value.ownBlock, Option.some.injEq] at hk; omega, fun h => by omega⟩
variable {ops : Array Oper} {o : Oper} {a : Act} {w : World} {Q : Exit → Act → World → Prop}
theorem Kd.step_zero {E SL : TypeId} (F : K.Ty E SL) {L : Act → World → Prop} {X : Prop} (hgd : o.guard = none) (s x : Operand) (ho : o.op = .call { callee := .builtin .append, args := #[s, x], argTypes := #[SL, SL] }) (base g : Nat) (hs : a.eval s = .slice (some ⟨g, 0, none⟩) 0 0) (hg : Emp w g E) (hbg : base ≤ g)
    (A : Option Addr) (m c : Nat) (b : List α) (hm : m = b.length) (hA : A = none → m = 0 ∧ c = 0) (hx : a.eval x = .slice A m c) (h2 : K.Rd w A b) (hb : m ≤ 1000000000)
    (h : ∀ A' c' w', w'.ownsRow base E K.k (.slice A' m c') m (K.row b) → Below w.heap.size w w' → (0 < m → ∀ k, (Value.slice A' m c').ownBlock = some k → w.heap.size ≤ k) → (m = 0 → c' = 0) → L (a.put o.dst (.slice A' m c')) w') : if Region.wanted o (yielded ops a.tmps) = true then Oper.wp Tryz.prog o a w L Q else X := by
  have hw : Region.wanted o (yielded ops a.tmps) = true := by simp [Region.wanted, hgd]
  rw [if_pos hw]
  obtain ⟨v', w', e1, e2, e3, e4, e5⟩ := Kd.append0 F w base g hg hbg b o.type A m c hm hA h2 hb
  unfold Oper.wp execOp
  simp only [ho, resolve, invoke, builtin, Sem.run_bind, Sem.run_pure, Result.andThen_ok, List.map_toArray, List.map_cons, List.map_nil, hs, hx, e1]
  obtain ⟨A', c', rfl⟩ := val_of e2
  exact h A' c' w' e2 e3 e4 (fun h => by have := e5 h; simp only [Value.slice.injEq] at this; exact this.2.2)
end

end Go.Proofs.YtcbfppangiopeaaGreat

namespace Go.Proofs.YtcbfppangiopeaaGreat
open Go.RowKit Go.Maps
set_option maxRecDepth 100000

theorem row4_heap {w : World} {b : Nat} {x0 x1 x2 x3 : Value} {e : TypeId} (h : w.heap[b]? = some (.cells #[x0, x1, x2, x3] e (0, 0))) :
    w.cell? ⟨b, 0, none⟩ = some x0 ∧ w.cell? ⟨b, 1, none⟩ = some x1 ∧ w.cell? ⟨b, 2, none⟩ = some x2 ∧ w.cell? ⟨b, 3, none⟩ = some x3 ∧ w.frozen? ⟨b, 0, none⟩ = false ∧ w.frozen? ⟨b, 1, none⟩ = false ∧ w.frozen? ⟨b, 2, none⟩ = false ∧ w.frozen? ⟨b, 3, none⟩ = false ∧ b < w.heap.size :=
  ⟨by rw [cell_row h]; rfl, by rw [cell_row h]; rfl, by rw [cell_row h]; rfl, by rw [cell_row h]; rfl, frozen_of_row _ _ _ _ _ h, frozen_of_row _ _ _ _ _ h, frozen_of_row _ _ _ _ _ h, frozen_of_row _ _ _ _ _ h, lt_of_block h⟩
theorem row5_heap {w : World} {b : Nat} {x0 x1 x2 x3 x4 : Value} {e : TypeId} (h : w.heap[b]? = some (.cells #[x0, x1, x2, x3, x4] e (0, 0))) :
    w.cell? ⟨b, 0, none⟩ = some x0 ∧ w.cell? ⟨b, 1, none⟩ = some x1 ∧ w.cell? ⟨b, 2, none⟩ = some x2 ∧ w.cell? ⟨b, 3, none⟩ = some x3 ∧ w.cell? ⟨b, 4, none⟩ = some x4 ∧ w.frozen? ⟨b, 0, none⟩ = false ∧ w.frozen? ⟨b, 1, none⟩ = false ∧ w.frozen? ⟨b, 2, none⟩ = false ∧ w.frozen? ⟨b, 3, none⟩ = false ∧ w.frozen? ⟨b, 4, none⟩ = false ∧ b < w.heap.size :=
  ⟨by rw [cell_row h]; rfl, by rw [cell_row h]; rfl, by rw [cell_row h]; rfl, by rw [cell_row h]; rfl, by rw [cell_row h]; rfl, frozen_of_row _ _ _ _ _ h, frozen_of_row _ _ _ _ _ h, frozen_of_row _ _ _ _ _ h, frozen_of_row _ _ _ _ _ h, frozen_of_row _ _ _ _ _ h, lt_of_block h⟩
theorem below_set4 {B b : Nat} {w w1 : World} {y0 y1 y2 y3 : Value} (h : Below B w w1) (hb : B ≤ b) : Below B w ((((w1.setCell ⟨b, 0, none⟩ y0).setCell ⟨b, 1, none⟩ y1).setCell ⟨b, 2, none⟩ y2).setCell ⟨b, 3, none⟩ y3) :=
  (((h.setCell (p := ⟨b, 0, none⟩) hb _).setCell (p := ⟨b, 1, none⟩) hb _).setCell (p := ⟨b, 2, none⟩) hb _).setCell (p := ⟨b, 3, none⟩) hb _
theorem below_set5 {B b : Nat} {w w1 : World} {y0 y1 y2 y3 y4 : Value} (h : Below B w w1) (hb : B ≤ b) : Below B w (((((w1.setCell ⟨b, 0, none⟩ y0).setCell ⟨b, 1, none⟩ y1).setCell ⟨b, 2, none⟩ y2).setCell ⟨b, 3, none⟩ y3).setCell ⟨b, 4, none⟩ y4) :=
  ((((h.setCell (p := ⟨b, 0, none⟩) hb _).setCell (p := ⟨b, 1, none⟩) hb _).setCell (p := ⟨b, 2, none⟩) hb _).setCell (p := ⟨b, 3, none⟩) hb _).setCell (p := ⟨b, 4, none⟩) hb _
/-- A row of pairs that another block's cells do not touch. -/
theorem rdq_far4 {w : World} {b : Nat} {y0 y1 y2 y3 : Value} {A : Option Addr} {l : List Pr} (h : RdQ w A l) (hne : ∀ g off, A = some ⟨g, off, none⟩ → l ≠ [] → g ≠ b) : RdQ ((((w.setCell ⟨b, 0, none⟩ y0).setCell ⟨b, 1, none⟩ y1).setCell ⟨b, 2, none⟩ y2).setCell ⟨b, 3, none⟩ y3) A l := fun hn => by
  obtain ⟨g, off, e, hg, hc⟩ := h hn
  have hb := hne g off e hn
  have hblk : ((((w.setCell ⟨b, 0, none⟩ y0).setCell ⟨b, 1, none⟩ y1).setCell ⟨b, 2, none⟩ y2).setCell ⟨b, 3, none⟩ y3).heap[g]? = w.heap[g]? := by
    rw [Below.heap_setCell _ _ _ _ hb, Below.heap_setCell _ _ _ _ hb, Below.heap_setCell _ _ _ _ hb, Below.heap_setCell _ _ _ _ hb]
  refine ⟨g, off, e, by simpa [World.setCell] using hg, fun i hi => ?_⟩
  obtain ⟨c0, c1, c2, c3, c4⟩ := hc i hi
  exact ⟨(World.cell?_of_block (a := ⟨g, _, none⟩) hblk).trans c0, (World.cell?_of_block (a := ⟨g, _, none⟩) hblk).trans c1, (World.cell?_of_block (a := ⟨g, _, none⟩) hblk).trans c2, (World.cell?_of_block (a := ⟨g, _, none⟩) hblk).trans c3, (World.cell?_of_block (a := ⟨g, _, none⟩) hblk).trans c4⟩
/-- What a call that changes the document's routes leaves. -/
def ChgPost (w : World) (A : Option Addr) (L Z : List Pr) (most n h : Int) (E : Int) (e : Ending) (w' : World) : Prop := ∃ A' c', e = .returned (.tuple #[.agg #[.slice A' Z.length c', .int .i64 most, .int .i64 n, .int .i64 h], .int .i64 E]) ∧ RdQ w' A' Z ∧ (∀ g off, A' = some ⟨g, off, none⟩ → Z ≠ [] → (A' = A ∧ L ≠ []) ∨ w.heap.size ≤ g) ∧ Below w.heap.size w w'
theorem rdq_below {w : World} {A : Option Addr} {ls : List Pr} (h : RdQ w A ls) : ∀ g off, A = some ⟨g, off, none⟩ → ls ≠ [] → g < w.heap.size := fun g off e hn => by
  obtain ⟨g', off', e', hg, -⟩ := h hn
  rw [e] at e'
  simp only [Option.some.injEq, Addr.mk.injEq, and_true] at e'
  rw [e'.1]
  exact hg
theorem delQ_nil' (p : Pf) : delQ p [] = [] := by
  unfold delQ delL
  simp
section
variable {w : World} {A : Option Addr} {c : Nat} {L : List Pr}
set_option maxHeartbeats 2000000 in
theorem ksize_any (hr : RdQ w A L) (hs : Srt L) (hl : L.length ≤ 10000) (most n h : Int) : Calls Tryz.prog 24 #[.agg #[.slice A L.length c, .int .i64 most, .int .i64 n, .int .i64 h]] w fun e w' => e = .returned (.tuple #[.int .i64 (L.length : Int), .int .i64 (nodesL L), .int .i64 most]) ∧ Below w.heap.size w w' := by
  have HRD := Lib.hid hr
  have cn := fun W (hr : RdQ W A L) => knodes_any (c := c) hr hs.1 (by omega) most
  generalize nodesL L = N at cn
  have CN := Lib.hid cn
  clear hr hs cn
  go_enter Tryz.func24, Tryz.ntmps24
  go_upto_region 1 with fail
  generalize hW : World.alloc _ _ = W
  have hB : Below w.heap.size w W := by subst hW; go_grown
  have x1 : W.heap[w.heap.size]? = some (.cells #[.slice A L.length c, .int .i64 most, .int .i64 n, .int .i64 h] 35 (0, 0)) := by subst hW; exact hp_new rfl
  obtain ⟨r0, r1, r2, r3, -, -, -, -, rz⟩ := row4_heap x1
  have R0 := fun x : Later W.heap.size W => (x.cell (p := ⟨w.heap.size, 0, none⟩) rz).trans r0
  have R1 := fun x : Later W.heap.size W => (x.cell (p := ⟨w.heap.size, 1, none⟩) rz).trans r1
  have HR2 := Lib.hid (fun x : Later W.heap.size W => CN.out x.at (HRD.out.keep (B := w.heap.size) (hB.trans (x.below.mono hB.size)) (Nat.le_refl _)))
  clear hW x1 r0 r1 r2 r3 rz CN
  refine region_later W.heap.size (by kernel_rfl) (by kernel_rfl) ?_
  repeat (go_big_quiet_step ((go_at_call 57; exact later_of (Nat.le_refl _) (HR2.out _))))
  refine wpQuiet_nil ?_
  intro x
  have hx := hB.trans (x.below.mono hB.size)
  clear R0 R1 HR2
  generalize x.at = w2 at *
  clear x
  go_wp2
  go_ret3
  exact ⟨rfl, hx⟩
set_option maxHeartbeats 2000000 in
theorem kwith_any (hr : RdQ w A L) (hl : L.length ≤ 10000) (most n h : Int) (p : Pf) : Calls Tryz.prog 18 #[.agg #[.slice A L.length c, .int .i64 most, .int .i64 n, .int .i64 h], .agg #[.int .u64 (u p.a.hi), .int .u64 (u p.a.lo), .bool p.a.v6, .int .i64 p.n]] w (ChgPost w A L (delQ p L) most n h (delE p L)) := by
  have HRD := Lib.hid hr
  have HLt := Lib.hid (fun (hn : L ≠ []) g off (e : A = some ⟨g, off, none⟩) => rdq_below hr g off e hn)
  have cd := fun W (hr : RdQ W A L) => kdel_any (c := c) hr hl most p
  have HNIL := Lib.hid (delQ_nil' p)
  have hnl : delQ p L ≠ [] → L ≠ [] := fun h e => h (by rw [e]; exact delQ_nil' p)
  have HNL := Lib.hid hnl
  unfold KDelPost at cd
  generalize delQ p L = Z at cd HNL ⊢
  generalize delE p L = E at cd ⊢
  have CD := Lib.hid cd
  clear hr cd hnl HNIL
  go_enter Tryz.func18, Tryz.ntmps18
  go_wp2_with fail
  refine (CD.out _ (HRD.out.keep (B := w.heap.size) (by go_grown) (Nat.le_refl _))).mono ?_
  rintro e w1 ⟨A', c', rfl, hr1, hA1, hw1⟩
  have b1 : Below w.heap.size w w1 := below_of (by go_grown) hw1
  have x1 : w1.heap[w.heap.size]? = some (.cells #[.slice A L.length c, .int .i64 most, .int .i64 n, .int .i64 h] 35 (0, 0)) := (hw1.block _ (by go_size)).trans (by repeat (first | (refine hp_new ?_; (simp; done)) | (refine hp_old ?_ ?_; · (first | (simp; done) | (simp; omega)))))
  have x3 : w1.heap[w.heap.size + 1 + 1]? = some (.cells #[.slice none 0 0, .int .i64 0, .int .i64 0, .int .i64 0] 35 (0, 0)) := (hw1.block _ (by go_size)).trans (by repeat (first | (refine hp_new ?_; (simp; done)) | (refine hp_old ?_ ?_; · (first | (simp; done) | (simp; omega)))))
  have hA : ∀ g off, A' = some ⟨g, off, none⟩ → Z ≠ [] → ((A' = A ∧ L ≠ []) ∨ w.heap.size ≤ g) ∧ g ≠ w.heap.size + 1 + 1 := fun g off e hn => by
    rcases hA1 g (by rw [e]; rfl) with h1 | h1
    · have := HLt.out (HNL.out hn) g off (h1 ▸ e)
      exact ⟨.inl ⟨h1, HNL.out hn⟩, by omega⟩
    · simp at h1
      exact ⟨.inr (by omega), by omega⟩
  have X1 := Lib.hid x1
  have X3 := Lib.hid x3
  have HA := Lib.hid hA
  have HR1 := Lib.hid hr1
  have z3 := lt_of_block x3
  clear hw1 x1 x3 hA hA1 hr1 CD
  go_upto_region 2 with fail
  generalize hW : World.alloc _ _ = W
  have e2 : Below w1.heap.size w1 W := by subst hW; go_grown
  have x4 : W.heap[w1.heap.size]? = some (.cells #[.slice A' Z.length c', .int .i64 most] 33 (0, 0)) := by subst hW; exact hp_new rfl
  have h40 : W.cell? ⟨w1.heap.size, 0, none⟩ = some (.slice A' Z.length c') := by rw [cell_row x4]; rfl
  have h41 : W.cell? ⟨w1.heap.size, 1, none⟩ = some (.int .i64 most) := by rw [cell_row x4]; rfl
  obtain ⟨r0, r1, r2, r3, -, -, -, -, rz⟩ := row4_heap ((e2.block _ (lt_of_block X1.out)).trans X1.out)
  obtain ⟨q0, q1, q2, q3, f0, f1, f2, f3, qz⟩ := row4_heap ((e2.block _ z3).trans X3.out)
  have HR2 := Lib.hid (HR1.out.keep (B := w1.heap.size) e2 (Nat.le_refl _))
  have b2 := b1.trans (e2.mono b1.size)
  clear hW x4 e2 X1 X3 z3 b1 qz rz HR1
  go_wp2
  refine bodyPost_ret (v := .tuple #[.agg #[.slice A' Z.length c', .int .i64 most, .int .i64 n, .int .i64 h], .int .i64 E]) (by simp [*, results, Tryz.results18, go_sem] <;> rfl) rfl ⟨A', c', rfl, rdq_far4 HR2.out (fun g off e hn => (HA.out g off e hn).2), fun g off e hn => (HA.out g off e hn).1, below_set4 b2 (by omega)⟩
set_option maxHeartbeats 2000000 in
theorem klong6_any (hr : RdQ w A L) (hs : Srt L) (hl : L.length ≤ 10000) (most n h : Int) (a : Ad) : Calls Tryz.prog 20 #[.agg #[.slice A L.length c, .int .i64 most, .int .i64 n, .int .i64 h], .agg #[.int .u64 (u a.hi), .int .u64 (u a.lo), .bool a.v6]] w (OptPost w (longL L a)) := by
  have HRD := Lib.hid hr
  have cg := fun W (hr : RdQ W A L) => klongest_any (c := c) hr hs hl most a
  have ck := fun x b W => kroute_any x b W
  unfold OptPost at cg ⊢
  generalize (longL L a).getD nilPr = x at cg ⊢
  generalize (longL L a).isSome = o at cg ⊢
  have CG := Lib.hid cg
  have CK := Lib.hid ck
  clear hr hs cg ck
  go_enter Tryz.func20, Tryz.ntmps20
  go_wp2_with fail
  refine (CG.out _ (HRD.out.keep (B := w.heap.size) (by go_grown) (Nat.le_refl _))).mono ?_
  rintro e w1 ⟨rfl, hw1⟩
  have b1 : Below w.heap.size w w1 := below_of (by go_grown) hw1
  have x3 : w1.heap[w.heap.size + 1 + 1]? = some (.cells #[.int .u64 0, .int .u64 0, .bool false, .int .i64 0, .int .i64 0] 51 (0, 0)) := (hw1.block _ (by go_size)).trans (by repeat (first | (refine hp_new ?_; (simp; done)) | (refine hp_old ?_ ?_; · (first | (simp; done) | (simp; omega)))))
  have X3 := Lib.hid x3
  have z3 := lt_of_block x3
  clear hw1 x3 CG
  go_upto_region 2 with fail
  generalize hW : World.alloc _ _ = W
  have e2 : Below w1.heap.size w1 W := by subst hW; go_grown
  have x4 : W.heap[w1.heap.size]? = some (.cells #[.int .u64 (u x.p.a.hi), .int .u64 (u x.p.a.lo), .bool x.p.a.v6, .int .i64 x.p.n, .int .i64 x.v] 104 (0, 0)) := by subst hW; exact hp_new rfl
  obtain ⟨r0, r1, r2, r3, r4, -, -, -, -, -, rz⟩ := row5_heap x4
  have X3' := Lib.hid ((e2.block _ z3).trans X3.out)
  have b2 := b1.trans (e2.mono b1.size)
  clear hW x4 e2 X3 z3 b1
  go_wp2_with fail
  refine (CK.out x o W).mono ?_
  rintro e w5 ⟨rfl, hw5⟩
  have x5 := (hw5.block _ (lt_of_block X3'.out)).trans X3'.out
  obtain ⟨q0, q1, q2, q3, q4, f0, f1, f2, f3, f4, qz⟩ := row5_heap x5
  have b5 := b2.trans (hw5.mono b2.size)
  clear hw5 x5 X3' r0 r1 r2 r3 r4 rz b2 CK
  go_wp2
  refine bodyPost_ret (v := .tuple #[.agg #[.int .u64 (u x.p.a.hi), .int .u64 (u x.p.a.lo), .bool x.p.a.v6, .int .i64 x.p.n, .int .i64 x.v], .bool o]) (by simp [*, results, Tryz.results20, go_sem] <;> rfl) rfl ⟨rfl, ?_⟩
  exact below_set5 b5 (by omega)
end

end Go.Proofs.YtcbfppangiopeaaGreat

namespace Go.Proofs.YtcbfppangiopeaaGreat
open Go.RowKit Go.Maps
set_option maxRecDepth 100000

section
variable {w : World} {A : Option Addr} {c : Nat} {L : List Pr}
set_option maxHeartbeats 8000000 in
theorem kaddx_any (hr : RdQ w A L) (hs : Srt L) (hl : L.length ≤ 5000) (most : Int) (hmo : 0 ≤ most ∧ most ≤ 2000000) (n h : Int) (_ : 0 ≤ n ∧ n ≤ 4096) (_ : 0 ≤ h ∧ h ≤ 65536) (p : Pf) (k : Int) :
    Calls Tryz.prog 19 #[.agg #[.slice A L.length c, .int .i64 most, .int .i64 n, .int .i64 h], .agg #[.int .u64 (u p.a.hi), .int .u64 (u p.a.lo), .bool p.a.v6, .int .i64 p.n], .int .i64 k] w (ChgPost w A L (addQ n h L p k) (if addE n h L p k = 0 then max most (nodesL (addQ n h L p k)) else most) n h (addE n h L p k)) := by
  have HRD := Lib.hid hr
  have key : ∀ E w', Below w.heap.size w w' → ChgPost w A L L most n h E (.returned (.tuple #[.agg #[.slice A L.length c, .int .i64 most, .int .i64 n, .int .i64 h], .int .i64 E])) w' := fun E w' hb => ⟨A, c, rfl, hr.keep hb (Nat.le_refl _), fun g off e hn => .inl ⟨rfl, hn⟩, hb⟩
  have cs := rpsane_any p
  have cp := fun W (hr : RdQ W A L) (hp : psane p = true) => kput_yes (c := c) hr hs (by omega) most (by omega) p k hp
  have hps := fun (hp : psane p = true) => put_srt (v := k) hs hp
  have hpl := fun (hp : psane p = true) => put_len (v := k) hs hp
  have hne : putL p k L ≠ [] := put_ne p k L
  have hfb : fitsB n h L p k = (decide (((putL p k L).length : Int) ≤ n) && decide ((unl (hopsL (putL p k L)) : Int) ≤ h)) := rfl
  clear hr
  cases hp : psane p
  · have e1 : addE n h L p k = 1 := by unfold addE; rw [hp]; rfl
    have e2 : addQ n h L p k = L := by unfold addQ; rw [e1]; rfl
    rw [e1, e2, if_neg (by decide)]
    rw [hp] at cs
    have CS := Lib.hid cs
    have KEY := Lib.hid (key 1)
    clear cs cp hps hpl hne hfb key hp e1 e2 hs
    go_enter Tryz.func19, Tryz.ntmps19
    go_wp2_with fail
    refine (CS.out _).mono ?_
    rintro e w1 ⟨rfl, hw1⟩
    have b1 : Below w.heap.size w w1 := below_of (by go_grown) hw1
    have hV : VBox w1 w.heap.size A L.length c most n h := VBox.keep (by refine ⟨?_, ?_, ?_, ?_, ?_⟩ <;> first | (go_simp; done) | (go_simp <;> rfl) | go_size) hw1
    have hP : PBox w1 (w.heap.size + 1) p := PBox.keep (by exact ⟨by go_simp <;> rfl, by go_simp <;> rfl, by go_simp <;> rfl, by go_simp <;> rfl, by go_simp <;> rfl, by go_simp <;> rfl, by go_simp <;> rfl, by go_simp <;> rfl, by go_size⟩) hw1
    have h3 : w1.heap[w.heap.size + 1 + 1]? = some (.cells #[.slice none 0 0, .int .i64 0, .int .i64 0, .int .i64 0] 35 (0, 0)) := (hw1.block (w.heap.size + 1 + 1) (by go_size)).trans (by repeat (first | (refine hp_new ?_; (simp; done)) | (refine hp_old ?_ ?_; · (first | (simp; done) | (simp; omega)))))
    have z3 := lt_of_block h3
    obtain ⟨v0, v1, v2, v3, vz⟩ := id hV
    clear hw1 CS
    clear hV hP
    -- w1: the world, b1: its Below, 1: the errno
    have r0 : w1.cell? ⟨w.heap.size + 1 + 1, 0, none⟩ = some (.slice none 0 0) := by rw [cell_row h3]; rfl
    have r1 : w1.cell? ⟨w.heap.size + 1 + 1, 1, none⟩ = some (.int .i64 0) := by rw [cell_row h3]; rfl
    have r2 : w1.cell? ⟨w.heap.size + 1 + 1, 2, none⟩ = some (.int .i64 0) := by rw [cell_row h3]; rfl
    have r3 : w1.cell? ⟨w.heap.size + 1 + 1, 3, none⟩ = some (.int .i64 0) := by rw [cell_row h3]; rfl
    have q0 := frozen_of_row w1 (w.heap.size + 1 + 1) 0 _ _ h3
    have q1 := frozen_of_row w1 (w.heap.size + 1 + 1) 1 _ _ h3
    have q2 := frozen_of_row w1 (w.heap.size + 1 + 1) 2 _ _ h3
    have q3 := frozen_of_row w1 (w.heap.size + 1 + 1) 3 _ _ h3
    clear h3
    go_wp2
    refine bodyPost_ret (v := .tuple #[.agg #[.slice A L.length c, .int .i64 most, .int .i64 n, .int .i64 h], .int .i64 1]) (by simp [*, results, Tryz.results19, go_sem] <;> rfl) rfl ?_
    exact KEY.out _ ((b1).trans (((((Below.refl _ _).setCell (by simp; omega) _).setCell (by simp; omega) _).setCell (by simp; omega) _).setCell (by simp; omega) _))
  · rw [hp] at cs
    have CS := Lib.hid cs
    by_cases hk : 0 ≤ k ∧ k ≤ 65535
    · have hZs := hps hp
      have hZl := hpl hp
      have cp' := fun W hr => cp W hr hp
      obtain ⟨Z, hZ⟩ : ∃ Z, putL p k L = Z := ⟨_, rfl⟩
      rw [hZ] at hZs hZl cp' hne hfb
      have hZ9 : Z.length ≤ 5001 := by rw [hZl]; split <;> omega
      have ch := fun W B d (hr : RdQ W B Z) => khops_any (c := d) hr (by omega)
      have hnb := nodes_bd Z hZs.1
      obtain ⟨U, hU⟩ : ∃ U, unl (hopsL Z) = U := ⟨_, rfl⟩
      rw [hU] at ch hfb
      obtain ⟨NN, hNN⟩ : ∃ NN, Z.length = NN := ⟨_, rfl⟩
      obtain ⟨R, hR⟩ : ∃ R, max most (nodesL Z) = R := ⟨_, rfl⟩
      have HRR := Lib.hid hR
      have hRb : 0 ≤ R ∧ R ≤ 2000000 := by omega
      rw [hNN, hR] at cp'
      rw [hNN] at ch hfb hZ9
      have CP := Lib.hid cp'
      have CH := Lib.hid ch
      have hk1 : decide (k < 0) = false := by simp; omega
      have hk2 : decide (65535 < k) = false := by simp; omega
      have HNE := Lib.hid hne
      have HFB := Lib.hid hfb
      have HNN := Lib.hid hNN
      have hE : addE n h L p k = if fitsB n h L p k = true then 0 else 3 := by unfold addE; rw [if_pos hp, if_pos hk]
      have hQ : addE n h L p k = 0 → addQ n h L p k = Z := fun e => by unfold addQ; rw [if_pos e]; exact hZ
      have hQ' : addE n h L p k = 3 → addQ n h L p k = L := fun e => by unfold addQ; rw [if_neg (by rw [e]; decide)]
      have HE := Lib.hid hE
      have HQ := Lib.hid hQ
      have HQ' := Lib.hid hQ'
      have KEY := Lib.hid (key 3)
      clear cs cp cp' ch hps hpl hne hfb key hZs hZl hZ hnb hU hNN hR hE hQ hQ' hs hp hk
      by_cases g1 : n < (NN : Int)
      · have e1 : addE n h L p k = 3 := by rw [HE.out, HFB.out, decide_eq_false (by omega)]; rfl
        rw [e1, HQ'.out e1, if_neg (by decide)]
        have tg : decide (n < (NN : Int)) = true := decide_eq_true g1
        clear e1 g1
        go_enter Tryz.func19, Tryz.ntmps19
        go_wp2_with fail
        refine (CS.out _).mono ?_
        rintro e w1 ⟨rfl, hw1⟩
        have b1 : Below w.heap.size w w1 := below_of (by go_grown) hw1
        have hV : VBox w1 w.heap.size A L.length c most n h := VBox.keep (by refine ⟨?_, ?_, ?_, ?_, ?_⟩ <;> first | (go_simp; done) | (go_simp <;> rfl) | go_size) hw1
        have hP : PBox w1 (w.heap.size + 1) p := PBox.keep (by exact ⟨by go_simp <;> rfl, by go_simp <;> rfl, by go_simp <;> rfl, by go_simp <;> rfl, by go_simp <;> rfl, by go_simp <;> rfl, by go_simp <;> rfl, by go_simp <;> rfl, by go_size⟩) hw1
        have h3 : w1.heap[w.heap.size + 1 + 1]? = some (.cells #[.slice none 0 0, .int .i64 0, .int .i64 0, .int .i64 0] 35 (0, 0)) := (hw1.block (w.heap.size + 1 + 1) (by go_size)).trans (by repeat (first | (refine hp_new ?_; (simp; done)) | (refine hp_old ?_ ?_; · (first | (simp; done) | (simp; omega)))))
        have z3 := lt_of_block h3
        obtain ⟨v0, v1, v2, v3, vz⟩ := id hV
        clear hw1 CS
        obtain ⟨pa, pb, pc, pg, -, -, -, -, pz⟩ := id hP
        have HV := Lib.hid hV
        clear hV hP
        go_wp2_with fail
        refine (CP.out _ (HRD.out.keep b1 (Nat.le_refl _))).mono ?_
        rintro e w2 ⟨A', c', rfl, hrz, hG, hw2⟩
        have b2 := b1.trans (hw2.mono b1.size)
        have HG : Hid (∀ g off, A' = some ⟨g, off, none⟩ → Z ≠ [] → w1.heap.size ≤ g) := Lib.hid hG
        replace h3 := (hw2.block _ z3).trans h3
        have HV2 := Lib.hid (HV.out.keep hw2)
        have y2 := hw2.size
        have HRZ2 := Lib.hid hrz
        clear hrz hG hw2 HV pa pb pc pg pz v0 v1 v2 v3 vz CP
        go_upto_region 6 with fail
        generalize hW : World.alloc _ _ = W
        have hBW : Below w2.heap.size w2 W := by subst hW; go_grown
        have hK : KBox W w2.heap.size A' NN c' R := by subst hW; exact (by refine ⟨?_, ?_, ?_⟩ <;> first | (go_simp; done) | (go_simp <;> rfl) | go_size)
        obtain ⟨k0, k1, kz⟩ := id hK
        replace h3 := (hBW.block _ (by omega)).trans h3
        obtain ⟨v0, v1, v2, v3, vz⟩ := id (HV2.out.keep hBW)
        have b3 := b2.trans (hBW.mono b2.size)
        have HRZ := Lib.hid (HRZ2.out.keep hBW (Nat.le_refl _))
        have y3 := hBW.size
        clear hW hK hBW HV2 HRZ2
        have Lk0 := fun x : Later W.heap.size W => (x.cell kz).trans k0
        have Lv2 := fun x : Later W.heap.size W => (x.cell vz).trans v2
        have Lv3 := fun x : Later W.heap.size W => (x.cell vz).trans v3
        refine region_later W.heap.size (by kernel_rfl) (by kernel_rfl) ?_
        repeat (go_big_quiet_step (fail))
        refine wpQuiet_nil ?_
        intro x
        have hx := x.below
        generalize x.at = V at hx ⊢
        clear x Lk0 Lv2 Lv3
        replace h3 := (hx.block _ (by omega)).trans h3
        replace HRZ := Lib.hid (HRZ.out.keep hx (Nat.le_refl _))
        replace k0 := (hx.cell kz).trans k0
        replace k1 := (hx.cell kz).trans k1
        replace v0 := (hx.cell vz).trans v0
        replace v1 := (hx.cell vz).trans v1
        replace v2 := (hx.cell vz).trans v2
        replace v3 := (hx.cell vz).trans v3
        have bV := b3.trans (hx.mono b3.size)
        clear hx tg
        clear k0 k1
        -- V: the world, bV: its Below, 3: the errno
        have r0 : V.cell? ⟨w.heap.size + 1 + 1, 0, none⟩ = some (.slice none 0 0) := by rw [cell_row h3]; rfl
        have r1 : V.cell? ⟨w.heap.size + 1 + 1, 1, none⟩ = some (.int .i64 0) := by rw [cell_row h3]; rfl
        have r2 : V.cell? ⟨w.heap.size + 1 + 1, 2, none⟩ = some (.int .i64 0) := by rw [cell_row h3]; rfl
        have r3 : V.cell? ⟨w.heap.size + 1 + 1, 3, none⟩ = some (.int .i64 0) := by rw [cell_row h3]; rfl
        have q0 := frozen_of_row V (w.heap.size + 1 + 1) 0 _ _ h3
        have q1 := frozen_of_row V (w.heap.size + 1 + 1) 1 _ _ h3
        have q2 := frozen_of_row V (w.heap.size + 1 + 1) 2 _ _ h3
        have q3 := frozen_of_row V (w.heap.size + 1 + 1) 3 _ _ h3
        clear h3
        go_wp2
        refine bodyPost_ret (v := .tuple #[.agg #[.slice A L.length c, .int .i64 most, .int .i64 n, .int .i64 h], .int .i64 3]) (by simp [*, results, Tryz.results19, go_sem] <;> rfl) rfl ?_
        exact KEY.out _ ((bV).trans (((((Below.refl _ _).setCell (by simp; omega) _).setCell (by simp; omega) _).setCell (by simp; omega) _).setCell (by simp; omega) _))
      · have tg : decide (n < (NN : Int)) = false := decide_eq_false g1
        by_cases g2 : h < (U : Int)
        · have e1 : addE n h L p k = 3 := by rw [HE.out, HFB.out, decide_eq_true (by omega), decide_eq_false (by omega)]; rfl
          rw [e1, HQ'.out e1, if_neg (by decide)]
          have tg2 : decide (h < (U : Int)) = true := decide_eq_true g2
          clear e1 g1 g2
          go_enter Tryz.func19, Tryz.ntmps19
          go_wp2_with fail
          refine (CS.out _).mono ?_
          rintro e w1 ⟨rfl, hw1⟩
          have b1 : Below w.heap.size w w1 := below_of (by go_grown) hw1
          have hV : VBox w1 w.heap.size A L.length c most n h := VBox.keep (by refine ⟨?_, ?_, ?_, ?_, ?_⟩ <;> first | (go_simp; done) | (go_simp <;> rfl) | go_size) hw1
          have hP : PBox w1 (w.heap.size + 1) p := PBox.keep (by exact ⟨by go_simp <;> rfl, by go_simp <;> rfl, by go_simp <;> rfl, by go_simp <;> rfl, by go_simp <;> rfl, by go_simp <;> rfl, by go_simp <;> rfl, by go_simp <;> rfl, by go_size⟩) hw1
          have h3 : w1.heap[w.heap.size + 1 + 1]? = some (.cells #[.slice none 0 0, .int .i64 0, .int .i64 0, .int .i64 0] 35 (0, 0)) := (hw1.block (w.heap.size + 1 + 1) (by go_size)).trans (by repeat (first | (refine hp_new ?_; (simp; done)) | (refine hp_old ?_ ?_; · (first | (simp; done) | (simp; omega)))))
          have z3 := lt_of_block h3
          obtain ⟨v0, v1, v2, v3, vz⟩ := id hV
          clear hw1 CS
          obtain ⟨pa, pb, pc, pg, -, -, -, -, pz⟩ := id hP
          have HV := Lib.hid hV
          clear hV hP
          go_wp2_with fail
          refine (CP.out _ (HRD.out.keep b1 (Nat.le_refl _))).mono ?_
          rintro e w2 ⟨A', c', rfl, hrz, hG, hw2⟩
          have b2 := b1.trans (hw2.mono b1.size)
          have HG : Hid (∀ g off, A' = some ⟨g, off, none⟩ → Z ≠ [] → w1.heap.size ≤ g) := Lib.hid hG
          replace h3 := (hw2.block _ z3).trans h3
          have HV2 := Lib.hid (HV.out.keep hw2)
          have y2 := hw2.size
          have HRZ2 := Lib.hid hrz
          clear hrz hG hw2 HV pa pb pc pg pz v0 v1 v2 v3 vz CP
          go_upto_region 6 with fail
          generalize hW : World.alloc _ _ = W
          have hBW : Below w2.heap.size w2 W := by subst hW; go_grown
          have hK : KBox W w2.heap.size A' NN c' R := by subst hW; exact (by refine ⟨?_, ?_, ?_⟩ <;> first | (go_simp; done) | (go_simp <;> rfl) | go_size)
          obtain ⟨k0, k1, kz⟩ := id hK
          replace h3 := (hBW.block _ (by omega)).trans h3
          obtain ⟨v0, v1, v2, v3, vz⟩ := id (HV2.out.keep hBW)
          have b3 := b2.trans (hBW.mono b2.size)
          have HRZ := Lib.hid (HRZ2.out.keep hBW (Nat.le_refl _))
          have y3 := hBW.size
          clear hW hK hBW HV2 HRZ2
          have Lk0 := fun x : Later W.heap.size W => (x.cell kz).trans k0
          have Lv2 := fun x : Later W.heap.size W => (x.cell vz).trans v2
          have Lv3 := fun x : Later W.heap.size W => (x.cell vz).trans v3
          refine region_later W.heap.size (by kernel_rfl) (by kernel_rfl) ?_
          repeat (go_big_quiet_step ((go_at_call 49; exact later_of (Nat.le_refl _) (CH.out _ _ _ (HRZ.out.keep (Later.below _) (Nat.le_refl _))))))
          refine wpQuiet_nil ?_
          intro x
          have hx := x.below
          generalize x.at = V at hx ⊢
          clear x Lk0 Lv2 Lv3
          replace h3 := (hx.block _ (by omega)).trans h3
          replace HRZ := Lib.hid (HRZ.out.keep hx (Nat.le_refl _))
          replace k0 := (hx.cell kz).trans k0
          replace k1 := (hx.cell kz).trans k1
          replace v0 := (hx.cell vz).trans v0
          replace v1 := (hx.cell vz).trans v1
          replace v2 := (hx.cell vz).trans v2
          replace v3 := (hx.cell vz).trans v3
          have bV := b3.trans (hx.mono b3.size)
          clear hx tg
          clear k0 k1
          -- V: the world, bV: its Below, 3: the errno
          have r0 : V.cell? ⟨w.heap.size + 1 + 1, 0, none⟩ = some (.slice none 0 0) := by rw [cell_row h3]; rfl
          have r1 : V.cell? ⟨w.heap.size + 1 + 1, 1, none⟩ = some (.int .i64 0) := by rw [cell_row h3]; rfl
          have r2 : V.cell? ⟨w.heap.size + 1 + 1, 2, none⟩ = some (.int .i64 0) := by rw [cell_row h3]; rfl
          have r3 : V.cell? ⟨w.heap.size + 1 + 1, 3, none⟩ = some (.int .i64 0) := by rw [cell_row h3]; rfl
          have q0 := frozen_of_row V (w.heap.size + 1 + 1) 0 _ _ h3
          have q1 := frozen_of_row V (w.heap.size + 1 + 1) 1 _ _ h3
          have q2 := frozen_of_row V (w.heap.size + 1 + 1) 2 _ _ h3
          have q3 := frozen_of_row V (w.heap.size + 1 + 1) 3 _ _ h3
          clear h3
          go_wp2
          refine bodyPost_ret (v := .tuple #[.agg #[.slice A L.length c, .int .i64 most, .int .i64 n, .int .i64 h], .int .i64 3]) (by simp [*, results, Tryz.results19, go_sem] <;> rfl) rfl ?_
          exact KEY.out _ ((bV).trans (((((Below.refl _ _).setCell (by simp; omega) _).setCell (by simp; omega) _).setCell (by simp; omega) _).setCell (by simp; omega) _))
        · have e1 : addE n h L p k = 0 := by rw [HE.out, HFB.out, decide_eq_true (by omega), decide_eq_true (by omega)]; rfl
          rw [e1, HQ.out e1, if_pos rfl, HRR.out]
          have tg2 : decide (h < (U : Int)) = false := decide_eq_false g2
          clear e1 g1 g2 KEY
          go_enter Tryz.func19, Tryz.ntmps19
          go_wp2_with fail
          refine (CS.out _).mono ?_
          rintro e w1 ⟨rfl, hw1⟩
          have b1 : Below w.heap.size w w1 := below_of (by go_grown) hw1
          have hV : VBox w1 w.heap.size A L.length c most n h := VBox.keep (by refine ⟨?_, ?_, ?_, ?_, ?_⟩ <;> first | (go_simp; done) | (go_simp <;> rfl) | go_size) hw1
          have hP : PBox w1 (w.heap.size + 1) p := PBox.keep (by exact ⟨by go_simp <;> rfl, by go_simp <;> rfl, by go_simp <;> rfl, by go_simp <;> rfl, by go_simp <;> rfl, by go_simp <;> rfl, by go_simp <;> rfl, by go_simp <;> rfl, by go_size⟩) hw1
          have h3 : w1.heap[w.heap.size + 1 + 1]? = some (.cells #[.slice none 0 0, .int .i64 0, .int .i64 0, .int .i64 0] 35 (0, 0)) := (hw1.block (w.heap.size + 1 + 1) (by go_size)).trans (by repeat (first | (refine hp_new ?_; (simp; done)) | (refine hp_old ?_ ?_; · (first | (simp; done) | (simp; omega)))))
          have z3 := lt_of_block h3
          obtain ⟨v0, v1, v2, v3, vz⟩ := id hV
          clear hw1 CS
          obtain ⟨pa, pb, pc, pg, -, -, -, -, pz⟩ := id hP
          have HV := Lib.hid hV
          clear hV hP
          go_wp2_with fail
          refine (CP.out _ (HRD.out.keep b1 (Nat.le_refl _))).mono ?_
          rintro e w2 ⟨A', c', rfl, hrz, hG, hw2⟩
          have b2 := b1.trans (hw2.mono b1.size)
          have HG : Hid (∀ g off, A' = some ⟨g, off, none⟩ → Z ≠ [] → w1.heap.size ≤ g) := Lib.hid hG
          replace h3 := (hw2.block _ z3).trans h3
          have HV2 := Lib.hid (HV.out.keep hw2)
          have y2 := hw2.size
          have HRZ2 := Lib.hid hrz
          clear hrz hG hw2 HV pa pb pc pg pz v0 v1 v2 v3 vz CP
          go_upto_region 6 with fail
          generalize hW : World.alloc _ _ = W
          have hBW : Below w2.heap.size w2 W := by subst hW; go_grown
          have hK : KBox W w2.heap.size A' NN c' R := by subst hW; exact (by refine ⟨?_, ?_, ?_⟩ <;> first | (go_simp; done) | (go_simp <;> rfl) | go_size)
          obtain ⟨k0, k1, kz⟩ := id hK
          replace h3 := (hBW.block _ (by omega)).trans h3
          obtain ⟨v0, v1, v2, v3, vz⟩ := id (HV2.out.keep hBW)
          have b3 := b2.trans (hBW.mono b2.size)
          have HRZ := Lib.hid (HRZ2.out.keep hBW (Nat.le_refl _))
          have y3 := hBW.size
          clear hW hK hBW HV2 HRZ2
          have Lk0 := fun x : Later W.heap.size W => (x.cell kz).trans k0
          have Lv2 := fun x : Later W.heap.size W => (x.cell vz).trans v2
          have Lv3 := fun x : Later W.heap.size W => (x.cell vz).trans v3
          refine region_later W.heap.size (by kernel_rfl) (by kernel_rfl) ?_
          repeat (go_big_quiet_step ((go_at_call 49; exact later_of (Nat.le_refl _) (CH.out _ _ _ (HRZ.out.keep (Later.below _) (Nat.le_refl _))))))
          refine wpQuiet_nil ?_
          intro x
          have hx := x.below
          generalize x.at = V at hx ⊢
          clear x Lk0 Lv2 Lv3
          replace h3 := (hx.block _ (by omega)).trans h3
          replace HRZ := Lib.hid (HRZ.out.keep hx (Nat.le_refl _))
          replace k0 := (hx.cell kz).trans k0
          replace k1 := (hx.cell kz).trans k1
          replace v0 := (hx.cell vz).trans v0
          replace v1 := (hx.cell vz).trans v1
          replace v2 := (hx.cell vz).trans v2
          replace v3 := (hx.cell vz).trans v3
          have bV := b3.trans (hx.mono b3.size)
          clear hx tg
          have r0 : V.cell? ⟨w.heap.size + 1 + 1, 0, none⟩ = some (.slice none 0 0) := by rw [cell_row h3]; rfl
          have r1 : V.cell? ⟨w.heap.size + 1 + 1, 1, none⟩ = some (.int .i64 0) := by rw [cell_row h3]; rfl
          have r2 : V.cell? ⟨w.heap.size + 1 + 1, 2, none⟩ = some (.int .i64 0) := by rw [cell_row h3]; rfl
          have r3 : V.cell? ⟨w.heap.size + 1 + 1, 3, none⟩ = some (.int .i64 0) := by rw [cell_row h3]; rfl
          have q0 := frozen_of_row V (w.heap.size + 1 + 1) 0 _ _ h3
          have q1 := frozen_of_row V (w.heap.size + 1 + 1) 1 _ _ h3
          have q2 := frozen_of_row V (w.heap.size + 1 + 1) 2 _ _ h3
          have q3 := frozen_of_row V (w.heap.size + 1 + 1) 3 _ _ h3
          clear h3
          go_wp2
          refine bodyPost_ret (v := .tuple #[.agg #[.slice A' NN c', .int .i64 R, .int .i64 n, .int .i64 h], .int .i64 0]) (by simp [*, results, Tryz.results19, go_sem] <;> rfl) rfl ?_
          refine ⟨A', c', by rw [HNN.out], ?_, fun g off e hn => .inr (by have := HG.out g off e hn; have := b1.size; omega), bV.trans (((((Below.refl _ _).setCell (by simp; omega) _).setCell (by simp; omega) _).setCell (by simp; omega) _).setCell (by simp; omega) _)⟩
          intro hne
          obtain ⟨g, off, e, hg, hc⟩ := HRZ.out hne
          have g1 := HG.out g off e hne
          have n2 : ¬ w.heap.size + 1 + 1 = g := by omega
          have n4 : ¬ g = w.heap.size + 1 + 1 := by omega
          refine ⟨g, off, e, by simpa using hg, fun i hi => ?_⟩
          obtain ⟨c0, c1, c2, c3, c4⟩ := hc i hi
          clear k0 k1 r0 r1 r2 r3 q0 q1 q2 q3 v0 v1 v2 v3
          refine ⟨?_, ?_, ?_, ?_, ?_⟩
          all_goals (go_simp; try assumption)
    · have e1 : addE n h L p k = 4 := by unfold addE; rw [if_pos hp, if_neg hk]
      have e2 : addQ n h L p k = L := by unfold addQ; rw [e1]; rfl
      rw [e1, e2, if_neg (by decide)]
      have KEY := Lib.hid (key 4)
      have HK := Lib.hid hk
      clear cs cp hps hpl hne hfb key hp e1 e2 hs hk
      by_cases h1 : k < 0
      · have hk1 : decide (k < 0) = true := decide_eq_true h1
        go_enter Tryz.func19, Tryz.ntmps19
        go_wp2_with fail
        refine (CS.out _).mono ?_
        rintro e w1 ⟨rfl, hw1⟩
        have b1 : Below w.heap.size w w1 := below_of (by go_grown) hw1
        have hV : VBox w1 w.heap.size A L.length c most n h := VBox.keep (by refine ⟨?_, ?_, ?_, ?_, ?_⟩ <;> first | (go_simp; done) | (go_simp <;> rfl) | go_size) hw1
        have hP : PBox w1 (w.heap.size + 1) p := PBox.keep (by exact ⟨by go_simp <;> rfl, by go_simp <;> rfl, by go_simp <;> rfl, by go_simp <;> rfl, by go_simp <;> rfl, by go_simp <;> rfl, by go_simp <;> rfl, by go_simp <;> rfl, by go_size⟩) hw1
        have h3 : w1.heap[w.heap.size + 1 + 1]? = some (.cells #[.slice none 0 0, .int .i64 0, .int .i64 0, .int .i64 0] 35 (0, 0)) := (hw1.block (w.heap.size + 1 + 1) (by go_size)).trans (by repeat (first | (refine hp_new ?_; (simp; done)) | (refine hp_old ?_ ?_; · (first | (simp; done) | (simp; omega)))))
        have z3 := lt_of_block h3
        obtain ⟨v0, v1, v2, v3, vz⟩ := id hV
        clear hw1 CS
        clear hV hP
        -- w1: the world, b1: its Below, 4: the errno
        have r0 : w1.cell? ⟨w.heap.size + 1 + 1, 0, none⟩ = some (.slice none 0 0) := by rw [cell_row h3]; rfl
        have r1 : w1.cell? ⟨w.heap.size + 1 + 1, 1, none⟩ = some (.int .i64 0) := by rw [cell_row h3]; rfl
        have r2 : w1.cell? ⟨w.heap.size + 1 + 1, 2, none⟩ = some (.int .i64 0) := by rw [cell_row h3]; rfl
        have r3 : w1.cell? ⟨w.heap.size + 1 + 1, 3, none⟩ = some (.int .i64 0) := by rw [cell_row h3]; rfl
        have q0 := frozen_of_row w1 (w.heap.size + 1 + 1) 0 _ _ h3
        have q1 := frozen_of_row w1 (w.heap.size + 1 + 1) 1 _ _ h3
        have q2 := frozen_of_row w1 (w.heap.size + 1 + 1) 2 _ _ h3
        have q3 := frozen_of_row w1 (w.heap.size + 1 + 1) 3 _ _ h3
        clear h3
        go_wp2
        refine bodyPost_ret (v := .tuple #[.agg #[.slice A L.length c, .int .i64 most, .int .i64 n, .int .i64 h], .int .i64 4]) (by simp [*, results, Tryz.results19, go_sem] <;> rfl) rfl ?_
        exact KEY.out _ ((b1).trans (((((Below.refl _ _).setCell (by simp; omega) _).setCell (by simp; omega) _).setCell (by simp; omega) _).setCell (by simp; omega) _))
      · have hk1 : decide (k < 0) = false := decide_eq_false h1
        have hk2 : decide (65535 < k) = true := decide_eq_true (by have := HK.out; omega)
        go_enter Tryz.func19, Tryz.ntmps19
        go_wp2_with fail
        refine (CS.out _).mono ?_
        rintro e w1 ⟨rfl, hw1⟩
        have b1 : Below w.heap.size w w1 := below_of (by go_grown) hw1
        have hV : VBox w1 w.heap.size A L.length c most n h := VBox.keep (by refine ⟨?_, ?_, ?_, ?_, ?_⟩ <;> first | (go_simp; done) | (go_simp <;> rfl) | go_size) hw1
        have hP : PBox w1 (w.heap.size + 1) p := PBox.keep (by exact ⟨by go_simp <;> rfl, by go_simp <;> rfl, by go_simp <;> rfl, by go_simp <;> rfl, by go_simp <;> rfl, by go_simp <;> rfl, by go_simp <;> rfl, by go_simp <;> rfl, by go_size⟩) hw1
        have h3 : w1.heap[w.heap.size + 1 + 1]? = some (.cells #[.slice none 0 0, .int .i64 0, .int .i64 0, .int .i64 0] 35 (0, 0)) := (hw1.block (w.heap.size + 1 + 1) (by go_size)).trans (by repeat (first | (refine hp_new ?_; (simp; done)) | (refine hp_old ?_ ?_; · (first | (simp; done) | (simp; omega)))))
        have z3 := lt_of_block h3
        obtain ⟨v0, v1, v2, v3, vz⟩ := id hV
        clear hw1 CS
        clear hV hP
        -- w1: the world, b1: its Below, 4: the errno
        have r0 : w1.cell? ⟨w.heap.size + 1 + 1, 0, none⟩ = some (.slice none 0 0) := by rw [cell_row h3]; rfl
        have r1 : w1.cell? ⟨w.heap.size + 1 + 1, 1, none⟩ = some (.int .i64 0) := by rw [cell_row h3]; rfl
        have r2 : w1.cell? ⟨w.heap.size + 1 + 1, 2, none⟩ = some (.int .i64 0) := by rw [cell_row h3]; rfl
        have r3 : w1.cell? ⟨w.heap.size + 1 + 1, 3, none⟩ = some (.int .i64 0) := by rw [cell_row h3]; rfl
        have q0 := frozen_of_row w1 (w.heap.size + 1 + 1) 0 _ _ h3
        have q1 := frozen_of_row w1 (w.heap.size + 1 + 1) 1 _ _ h3
        have q2 := frozen_of_row w1 (w.heap.size + 1 + 1) 2 _ _ h3
        have q3 := frozen_of_row w1 (w.heap.size + 1 + 1) 3 _ _ h3
        clear h3
        go_wp2
        refine bodyPost_ret (v := .tuple #[.agg #[.slice A L.length c, .int .i64 most, .int .i64 n, .int .i64 h], .int .i64 4]) (by simp [*, results, Tryz.results19, go_sem] <;> rfl) rfl ?_
        exact KEY.out _ ((b1).trans (((((Below.refl _ _).setCell (by simp; omega) _).setCell (by simp; omega) _).setCell (by simp; omega) _).setCell (by simp; omega) _))
end

end Go.Proofs.YtcbfppangiopeaaGreat

namespace Go.Proofs.YtcbfppangiopeaaGreat
open Go.RowKit Go.Maps
set_option maxRecDepth 100000

theorem putM_cast' {p : Pf} {v : Int} {L : List Pr} {most : Nat} (hp : psane p = true) (hs : Srt L) : ((putM p v L most : Nat) : Int) = max (most : Int) (nodesL (putL p v L)) := by
  have h2 := (nodes_bd (putL p v L) (fun y hy => (put_srt (v := v) hs hp).1 y hy)).1
  unfold putM
  rw [if_pos hp]
  omega
theorem addM_cast {n h : Int} {L : List Pr} {p : Pf} {k : Int} {most : Nat} (hs : Srt L) : ((addM n h L p k most : Nat) : Int) = if addE n h L p k = 0 then max (most : Int) (nodesL (addQ n h L p k)) else (most : Int) := by
  unfold addM
  by_cases e : addE n h L p k = 0
  · rw [if_pos e, if_pos e]
    have hp : psane p = true := by
      cases hp : psane p
      · unfold addE at e
        rw [hp] at e
        simp at e
      · rfl
    rw [putM_cast' hp hs]
    unfold addQ
    rw [if_pos e]
  · rw [if_neg e, if_neg e]
section
variable {w : World} {A : Option Addr} {c : Nat} {L : List Pr}
set_option maxHeartbeats 2000000 in
theorem kdidx_any (hr : RdQ w A L) (hs : Srt L) (hl : L.length ≤ 5000) {most : Nat} (hm : most ≤ 1000000) (n h : Int) (hn : 0 ≤ n ∧ n ≤ 4096) (hh : 0 ≤ h ∧ h ≤ 65536) (x : Ac) :
    Calls Tryz.prog 8 #[.agg #[.slice A L.length c, .int .i64 (most : Int), .int .i64 n, .int .i64 h], .agg #[.bool x.out, .int .u64 (u x.p.a.hi), .int .u64 (u x.p.a.lo), .bool x.p.a.v6, .int .i64 x.p.n, .int .i64 x.v]] w (ChgPost w A L (rdoQ n h x L) ((rdoM n h x L most : Nat) : Int) n h (rdoE n h x L)) := by
  have HRD := Lib.hid hr
  have HLt := Lib.hid (fun (hn : L ≠ []) g off (e : A = some ⟨g, off, none⟩) => rdq_below hr g off e hn)
  cases hx : x.out
  · have HD : rdoQ n h x L = addQ n h L x.p x.v ∧ rdoM n h x L most = addM n h L x.p x.v most ∧ rdoE n h x L = addE n h L x.p x.v := by unfold rdoQ rdoM rdoE; rw [hx]; exact ⟨rfl, rfl, rfl⟩
    rw [HD.1, HD.2.1, HD.2.2]
    have cc := fun W (hr : RdQ W A L) => kaddx_any (c := c) hr hs hl (most : Int) (by omega) n h hn hh x.p x.v
    rw [← addM_cast hs] at cc
    generalize addQ n h L x.p x.v = Z at cc ⊢
    generalize ((addM n h L x.p x.v most : Nat) : Int) = M' at cc ⊢
    generalize addE n h L x.p x.v = E at cc ⊢
    unfold ChgPost at cc
    have CC := Lib.hid cc
    clear hr hs hl cc HD hx hn hh hm
    go_enter Tryz.func8, Tryz.ntmps8
    go_wp2_with fail
    refine (CC.out _ (HRD.out.keep (B := w.heap.size) (by go_grown) (Nat.le_refl _))).mono ?_
    rintro e w1 ⟨A', c', rfl, hr1, hA1, hw1⟩
    have b1 : Below w.heap.size w w1 := below_of (by go_grown) hw1
    have x3 : w1.heap[w.heap.size + 1 + 1]? = some (.cells #[.slice none 0 0, .int .i64 0, .int .i64 0, .int .i64 0] 35 (0, 0)) := (hw1.block _ (by go_size)).trans (by repeat (first | (refine hp_new ?_; (simp; done)) | (refine hp_old ?_ ?_; · (first | (simp; done) | (simp; omega)))))
    have hA : ∀ g off, A' = some ⟨g, off, none⟩ → Z ≠ [] → ((A' = A ∧ L ≠ []) ∨ w.heap.size ≤ g) ∧ g ≠ w.heap.size + 1 + 1 := fun g off e hn => by
      rcases hA1 g off e hn with h1 | h1
      · have := HLt.out h1.2 g off (h1.1 ▸ e)
        exact ⟨.inl h1, by omega⟩
      · simp at h1
        exact ⟨.inr (by omega), by omega⟩
    obtain ⟨q0, q1, q2, q3, f0, f1, f2, f3, qz⟩ := row4_heap x3
    have HA := Lib.hid hA
    have HR1 := Lib.hid hr1
    have B1 := Lib.hid b1
    clear hw1 x3 hA hA1 hr1 CC b1
    go_wp2
    refine bodyPost_ret (v := .tuple #[.agg #[.slice A' Z.length c', .int .i64 M', .int .i64 n, .int .i64 h], .int .i64 E]) (by simp [*, results, Tryz.results8, go_sem] <;> rfl) rfl ⟨A', c', rfl, rdq_far4 HR1.out (fun g off e hn => (HA.out g off e hn).2), fun g off e hn => (HA.out g off e hn).1, below_set4 B1.out (by omega)⟩
  · have HD : rdoQ n h x L = delQ x.p L ∧ rdoM n h x L most = most ∧ rdoE n h x L = delE x.p L := by unfold rdoQ rdoM rdoE; rw [hx]; exact ⟨rfl, rfl, rfl⟩
    rw [HD.1, HD.2.1, HD.2.2]
    have cc := fun W (hr : RdQ W A L) => kwith_any (c := c) hr (by omega) (most : Int) n h x.p
    generalize delQ x.p L = Z at cc ⊢
    generalize (most : Int) = M' at cc ⊢
    generalize delE x.p L = E at cc ⊢
    unfold ChgPost at cc
    have CC := Lib.hid cc
    clear hr hs hl cc HD hx hn hh hm
    go_enter Tryz.func8, Tryz.ntmps8
    go_wp2_with fail
    refine (CC.out _ (HRD.out.keep (B := w.heap.size) (by go_grown) (Nat.le_refl _))).mono ?_
    rintro e w1 ⟨A', c', rfl, hr1, hA1, hw1⟩
    have b1 : Below w.heap.size w w1 := below_of (by go_grown) hw1
    have x3 : w1.heap[w.heap.size + 1 + 1]? = some (.cells #[.slice none 0 0, .int .i64 0, .int .i64 0, .int .i64 0] 35 (0, 0)) := (hw1.block _ (by go_size)).trans (by repeat (first | (refine hp_new ?_; (simp; done)) | (refine hp_old ?_ ?_; · (first | (simp; done) | (simp; omega)))))
    have hA : ∀ g off, A' = some ⟨g, off, none⟩ → Z ≠ [] → ((A' = A ∧ L ≠ []) ∨ w.heap.size ≤ g) ∧ g ≠ w.heap.size + 1 + 1 := fun g off e hn => by
      rcases hA1 g off e hn with h1 | h1
      · have := HLt.out h1.2 g off (h1.1 ▸ e)
        exact ⟨.inl h1, by omega⟩
      · simp at h1
        exact ⟨.inr (by omega), by omega⟩
    obtain ⟨q0, q1, q2, q3, f0, f1, f2, f3, qz⟩ := row4_heap x3
    have HA := Lib.hid hA
    have HR1 := Lib.hid hr1
    have B1 := Lib.hid b1
    clear hw1 x3 hA hA1 hr1 CC b1
    go_wp2
    refine bodyPost_ret (v := .tuple #[.agg #[.slice A' Z.length c', .int .i64 M', .int .i64 n, .int .i64 h], .int .i64 E]) (by simp [*, results, Tryz.results8, go_sem] <;> rfl) rfl ⟨A', c', rfl, rdq_far4 HR1.out (fun g off e hn => (HA.out g off e hn).2), fun g off e hn => (HA.out g off e hn).1, below_set4 B1.out (by omega)⟩
set_option maxHeartbeats 1000000 in
theorem knew6x_any (n0 h0 : Int) (w : World) : Calls Tryz.prog 6 #[.int .i64 n0, .int .i64 h0] w fun e w' => e = .returned (.agg #[.slice none 0 0, .int .i64 2, .int .i64 (max 0 (min n0 4096)), .int .i64 (max 0 (min h0 65536))]) ∧ Below w.heap.size w w' := by
  go_enter Tryz.func6, Tryz.ntmps6
  go_wp2_with fail
  refine (knew5_any _).mono ?_
  rintro e w1 ⟨rfl, hw1⟩
  have b1 : Below w.heap.size w w1 := below_of (by go_grown) hw1
  have h3 : w1.heap[w.heap.size]? = some (.cells #[.slice none 0 0, .int .i64 0, .int .i64 0, .int .i64 0] 35 (0, 0)) := (hw1.block (w.heap.size) (by go_size)).trans (by repeat (first | (refine hp_new ?_; (simp; done)) | (refine hp_old ?_ ?_; · (first | (simp; done) | (simp; omega)))))
  have r0 : w1.cell? ⟨w.heap.size, 0, none⟩ = some (.slice none 0 0) := by rw [cell_row h3]; rfl
  have r1 : w1.cell? ⟨w.heap.size, 1, none⟩ = some (.int .i64 0) := by rw [cell_row h3]; rfl
  have r2 : w1.cell? ⟨w.heap.size, 2, none⟩ = some (.int .i64 0) := by rw [cell_row h3]; rfl
  have r3 : w1.cell? ⟨w.heap.size, 3, none⟩ = some (.int .i64 0) := by rw [cell_row h3]; rfl
  have q0 := frozen_of_row w1 (w.heap.size) 0 _ _ h3
  have q1 := frozen_of_row w1 (w.heap.size) 1 _ _ h3
  have q2 := frozen_of_row w1 (w.heap.size) 2 _ _ h3
  have q3 := frozen_of_row w1 (w.heap.size) 3 _ _ h3
  clear hw1 h3
  go_wp2
  all_goals
    refine bodyPost_ret (v := .agg #[.slice none 0 0, .int .i64 2, .int .i64 (max 0 (min n0 4096)), .int .i64 (max 0 (min h0 65536))]) (by simp [*, results, Tryz.results6, go_sem] <;> omega) rfl ?_
    exact ⟨rfl, b1.trans (((((Below.refl _ _).setCell (by simp) _).setCell (by simp) _).setCell (by simp) _).setCell (by simp) _)⟩
end

end Go.Proofs.YtcbfppangiopeaaGreat

namespace Go.Proofs.YtcbfppangiopeaaGreat
open Go.RowKit Go.Maps
set_option maxRecDepth 100000

def qK : Kd Pr := ⟨pr5, 5, by decide, fun _ => rfl, fun x u hu => by simp [pr5] at hu; rcases hu with rfl | rfl | rfl | rfl | rfl <;> rfl⟩
theorem ty_rt : qK.Ty 51 54 := Kd.ty_of (z := .agg #[.int .u64 0, .int .u64 0, .bool false, .int .i64 0, .int .i64 0]) (b := 40) (by kernel_rfl) (by decide) rfl Tryz.underlying54
theorem qK_row (l : List Pr) : qK.row l = prv l := rfl
theorem rdq_at {w : World} {A : Option Addr} {l : List Pr} (h : RdQ w A l) {k : Nat} (hk : k < l.length) : ∃ g off, A = some ⟨g, off, none⟩ ∧ ∀ w', Below w.heap.size w w' → w'.cell? ⟨g, off + k * 5, none⟩ = some (.int .u64 (u l[k].p.a.hi)) ∧ w'.cell? ⟨g, off + k * 5 + 1, none⟩ = some (.int .u64 (u l[k].p.a.lo)) ∧ w'.cell? ⟨g, off + k * 5 + 2, none⟩ = some (.bool l[k].p.a.v6) ∧ w'.cell? ⟨g, off + k * 5 + 3, none⟩ = some (.int .i64 l[k].p.n) ∧ w'.cell? ⟨g, off + k * 5 + 4, none⟩ = some (.int .i64 l[k].v) := by
  obtain ⟨g, off, e, hg, hc⟩ := h (by rintro rfl; cases hk)
  obtain ⟨c0, c1, c2, c3, c4⟩ := hc k hk
  exact ⟨g, off, e, fun w' hb => ⟨(hb.cell (p := ⟨g, off + k * 5, none⟩) hg).trans c0, (hb.cell (p := ⟨g, off + k * 5 + 1, none⟩) hg).trans c1, (hb.cell (p := ⟨g, off + k * 5 + 2, none⟩) hg).trans c2, (hb.cell (p := ⟨g, off + k * 5 + 3, none⟩) hg).trans c3, (hb.cell (p := ⟨g, off + k * 5 + 4, none⟩) hg).trans c4⟩⟩
/-- A number that is better. -/
def lstS (n best v : Int) : Int := if n < v ∧ (best < 0 ∨ v < best) then v else best
def lstK (L : List Pr) (n : Int) (k : Nat) : Int := ((L.take k).map (·.v)).foldl (lstS n) (-1)
def lstL (L : List Pr) (n : Int) : Int := lstK L n L.length
theorem lstK_succ (L : List Pr) (n : Int) {k : Nat} (h : k < L.length) : lstK L n (k + 1) = lstS n (lstK L n k) L[k].v := by
  unfold lstK
  rw [← List.take_append_getElem h, List.map_append, List.foldl_append]
  rfl
theorem lst_spec (L : List Pr) (hv : ∀ x, x ∈ L → 0 ≤ x.v) (n : Int) : ∀ k, k ≤ L.length → (lstK L n k = -1 ∧ ∀ x, x ∈ L.take k → x.v ≤ n) ∨ ((∃ x, x ∈ L.take k ∧ x.v = lstK L n k) ∧ n < lstK L n k ∧ 0 ≤ lstK L n k ∧ ∀ y, y ∈ L.take k → n < y.v → lstK L n k ≤ y.v) := by
  intro k
  induction k with
  | zero => intro _; left; simp [lstK]
  | succ k ih =>
    intro hk
    have ih := ih (by omega)
    have hlt : k < L.length := by omega
    rw [lstK_succ L n hlt]
    have hm : ∀ x, x ∈ L.take (k + 1) ↔ x ∈ L.take k ∨ x = L[k] := fun x => by rw [List.take_succ_eq_append_getElem hlt, List.mem_append, List.mem_singleton]
    have h0 := hv _ (List.getElem_mem hlt)
    generalize L[k] = z at hm h0
    generalize lstK L n k = b at ih
    unfold lstS
    by_cases h1 : n < z.v ∧ (b < 0 ∨ z.v < b)
    · rw [if_pos h1]
      right
      refine ⟨⟨z, (hm z).2 (.inr rfl), rfl⟩, h1.1, h0, fun y hy hn => ?_⟩
      rcases (hm y).1 hy with h | h
      · rcases ih with ⟨e1, e2⟩ | ⟨-, -, e3, e4⟩
        · have := e2 y h
          omega
        · have := e4 y h hn
          omega
      · rw [h]
        exact Int.le_refl _
    · rw [if_neg h1]
      rcases ih with ⟨e1, e2⟩ | ⟨⟨x, e0, e00⟩, e1, e3, e4⟩
      · left
        refine ⟨e1, fun x hx => ?_⟩
        rcases (hm x).1 hx with h | h
        · exact e2 x h
        · rw [h]
          by_cases hz : n < z.v
          · exact absurd ⟨hz, .inl (by omega)⟩ h1
          · omega
      · right
        refine ⟨⟨x, (hm x).2 (.inl e0), e00⟩, e1, e3, fun y hy hn => ?_⟩
        rcases (hm y).1 hy with h | h
        · exact e4 y h hn
        · rw [h] at hn ⊢
          by_cases hz : z.v < b
          · exact absurd ⟨hn, .inr hz⟩ h1
          · omega
section
variable {w : World} {A : Option Addr} {c : Nat} {L : List Pr}
set_option maxHeartbeats 2000000 in
theorem kdump_any (hr : RdQ w A L) (hl : L.length ≤ 10000) (most n h : Int) : Calls Tryz.prog 28 #[.agg #[.slice A L.length c, .int .i64 most, .int .i64 n, .int .i64 h]] w (RoutesPost w L) := by
  have HRD := Lib.hid hr
  clear hr
  go_enter Tryz.func28, Tryz.ntmps28
  go_wp2_with fail
  generalize hW : w.alloc _ = W
  have hB : Below w.heap.size w W := by subst hW; go_grown
  have x1 : W.heap[w.heap.size]? = some (.cells #[.slice A L.length c, .int .i64 most, .int .i64 n, .int .i64 h] 35 (0, 0)) := by subst hW; exact hp_new rfl
  obtain ⟨r0, -, -, -, -, -, -, -, rz⟩ := row4_heap x1
  have HB := Lib.hid hB
  have zW := hB.size
  clear hW x1 hB
  go_loopw [3, 4] (fun o i wr => ∃ (j : Nat) (B : Option Addr) (d : Nat), j ≤ L.length ∧ i = .int .i64 j ∧ o = .slice B j d ∧ wr.ownsRow W.heap.size 51 5 (.slice B j d) j (qK.row (L.take j)) ∧ Below W.heap.size W wr) (fun _ i _ => L.length - (intOf i).toNat)
  case atStart => exact ⟨0, none, 0, Nat.zero_le _, rfl, rfl, World.ownsRow_nil _ _ _ _, Below.refl _ _⟩
  case round =>
    obtain ⟨j, B, d, hj, rfl, rfl, ho, hb⟩ := hrel
    have HO := Lib.hid ho
    have HBB := Lib.hid hb
    have r0 := (hb.cell (p := ⟨w.heap.size, 0, none⟩) rz).trans r0
    have zr := hb.size
    by_cases hlt : j < L.length
    · have t1 : decide ((j : Int) < (L.length : Int)) = true := by simp; omega
      have k1 : (j : Int) < (L.length : Int) := by omega
      obtain ⟨g, off, rfl, hc⟩ := rdq_at HRD.out hlt
      obtain ⟨c0, c1, c2, c3, c4⟩ := hc wr (HB.out.trans (hb.mono HB.out.size))
      have HT : Hid (L.take (j + 1) = L.take j ++ [L[j]]) := Lib.hid (by rw [List.take_append_getElem hlt])
      have hjl : j = (L.take j).length := by rw [List.length_take]; omega
      have HJ := Lib.hid hjl
      generalize L[j] = x at c0 c1 c2 c3 c4 HT
      clear ho hb hc hjl
      go_wp2_with fail
      refine (kroute_any x true _).mono ?_
      rintro e w5 ⟨rfl, hw5⟩
      have hw5b := HBB.out.trans (hw5.mono zr)
      have HO5 := Lib.hid (own_block HO.out (fun b _ hl => hw5.block b hl))
      have HB5 := Lib.hid hw5b
      have z5 := hw5b.size
      clear hw5 hw5b c0 c1 c2 c3 c4
      go_upto_region 6 with fail
      generalize hV : World.alloc _ _ = V
      have eV : Below w5.heap.size w5 V := by subst hV; go_grown
      have xV : V.heap[w5.heap.size]? = some (.cells #[.int .u64 (u x.p.a.hi), .int .u64 (u x.p.a.lo), .bool x.p.a.v6, .int .i64 x.p.n, .int .i64 x.v] 51 (0, 0)) := by subst hV; exact hp_new rfl
      obtain ⟨q0, q1, q2, q3, q4, -, -, -, -, -, qz⟩ := row5_heap xV
      have HOV := Lib.hid (own_block HO5.out (fun b _ hl => eV.block b hl))
      have HBV := Lib.hid (HB5.out.trans (eV.mono z5))
      have zV := HBV.out.size
      clear hV eV xV
      go_wp2_with (
        at_builtin
        refine Kd.wpList_one ty_rt rfl (.tmp 25) (.tmp 27) rfl W.heap.size _ j (L.take j) HJ.out (by rfl) (HOV.out.alloc _) V.heap.size x (by rfl) (hp_new rfl) (by omega) (by simp; omega) ?_
        intro A' c' w7 hG
        have HG := Lib.hid hG
        clear hG
        )
      go_roundw
      case rel => exact ⟨j + 1, A', c', by omega, by go_num, rfl, by rw [HT.out]; exact HG.out.1, (HBV.out.alloc zV _).trans HG.out.2.2.2⟩
      case measure => simp [intOf]; omega
    · have hjl : j = L.length := by omega
      subst hjl
      have t1 : decide ((L.length : Int) < (L.length : Int)) = false := by simp
      rw [List.take_of_length_le (Nat.le_refl _)] at HO
      clear ho hb
      go_wp2
      go_ret
      exact ⟨_, rfl, own_low HO.out zW, HB.out.trans (HBB.out.mono zW)⟩
set_option maxHeartbeats 2000000 in
theorem kleast_any (hr : RdQ w A L) (hl : L.length ≤ 10000) (most n h : Int) (m : Int) : Calls Tryz.prog 62 #[.agg #[.slice A L.length c, .int .i64 most, .int .i64 n, .int .i64 h], .int .i64 m] w fun e w' => e = .returned (.int .i64 (lstL L m)) ∧ Below w.heap.size w w' := by
  have HRD := Lib.hid hr
  clear hr
  go_enter Tryz.func62, Tryz.ntmps62
  go_wp2_with fail
  generalize hW : w.alloc _ = W
  have hB : Below w.heap.size w W := by subst hW; go_grown
  have x1 : W.heap[w.heap.size]? = some (.cells #[.slice A L.length c, .int .i64 most, .int .i64 n, .int .i64 h] 35 (0, 0)) := by subst hW; exact hp_new rfl
  obtain ⟨r0, -, -, -, -, -, -, -, rz⟩ := row4_heap x1
  have HB := Lib.hid hB
  clear hW x1 hB
  go_loopw [5, 6] (fun b i wr => ∃ j : Nat, j ≤ L.length ∧ i = .int .i64 j ∧ b = .int .i64 (lstK L m j) ∧ wr = W) (fun _ i _ => L.length - (intOf i).toNat)
  case atStart => exact ⟨0, Nat.zero_le _, rfl, rfl, rfl⟩
  case round =>
    obtain ⟨j, hj, rfl, rfl, hw9⟩ := hrel
    subst hw9
    by_cases hlt : j < L.length
    · have t1 : decide ((j : Int) < (L.length : Int)) = true := by simp; omega
      have k1 : (j : Int) < (L.length : Int) := by omega
      obtain ⟨g, off, rfl, hc⟩ := rdq_at HRD.out hlt
      obtain ⟨-, -, -, -, c4⟩ := hc wr HB.out
      have HS := Lib.hid (lstK_succ L m hlt)
      generalize L[j].v = v at c4 HS
      generalize lstK L m j = b at HS
      clear hc
      cases h1 : decide (m < v)
      · have hS : lstS m b v = b := by unfold lstS; rw [if_neg]; intro e; have := of_decide_eq_false h1; omega
        rw [hS] at HS
        clear hS
        go_wp2
        go_roundw
        case rel => exact ⟨j + 1, by omega, by go_num, by rw [HS.out], trivial⟩
        case measure => simp [intOf]; omega
      · cases h2 : decide (b < 0)
        · cases h3 : decide (v < b)
          · have hS : lstS m b v = b := by unfold lstS; rw [if_neg]; intro e; have := of_decide_eq_false h2; have := of_decide_eq_false h3; omega
            rw [hS] at HS
            clear hS
            go_wp2
            go_roundw
            case rel => exact ⟨j + 1, by omega, by go_num, by rw [HS.out], trivial⟩
            case measure => simp [intOf]; omega
          · have hS : lstS m b v = v := by unfold lstS; rw [if_pos]; exact ⟨of_decide_eq_true h1, .inr (of_decide_eq_true h3)⟩
            rw [hS] at HS
            clear hS
            go_wp2
            go_roundw
            case rel => exact ⟨j + 1, by omega, by go_num, by rw [HS.out], trivial⟩
            case measure => simp [intOf]; omega
        · have hS : lstS m b v = v := by unfold lstS; rw [if_pos]; exact ⟨of_decide_eq_true h1, .inl (of_decide_eq_true h2)⟩
          rw [hS] at HS
          clear hS
          go_wp2
          go_roundw
          case rel => exact ⟨j + 1, by omega, by go_num, by rw [HS.out], trivial⟩
          case measure => simp [intOf]; omega
    · have hjl : j = L.length := by omega
      subst hjl
      have t1 : decide ((L.length : Int) < (L.length : Int)) = false := by simp
      go_wp2
      go_ret
      exact ⟨rfl, HB.out⟩
end

end Go.Proofs.YtcbfppangiopeaaGreat
