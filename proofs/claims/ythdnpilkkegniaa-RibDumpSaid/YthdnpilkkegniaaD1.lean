/-
  Plain facts of pairs in order: those above an address, those under a prefix and its children. No condition.
-/
import Derived.Test.YthdnpilkkegniaaH1
import Derived.Test.YthdnpilkkegniaaE1
import Derived.Laws.BitsLemmas
import Derived.Test.YthdnpilkkegniaaR2
import Derived.Test.YthdnpilkkegniaaReg
import Derived.Test.YthdnpilkkegniaaShelf
import Derived.Maps.RangeWalk
import Derived.Lib.SlKeysI
import Derived.OwnWalkIn
namespace Go.Proofs.Ythdnpilkkegniaa
open Go.RowKit Go.Maps
set_option maxRecDepth 100000

/-- A fresh row of routes. -/
def RoutesPost (w : World) (l : List Pr) (e : Ending) (w' : World) : Prop := ∃ v, e = .returned v ∧ w'.ownsRow w.heap.size 55 5 v l.length (prv l) ∧ Below w.heap.size w w'
/-- At the head of a round of the inner loop: B are there, and j of U. -/
def DumpRel (w : World) (b0 : Nat) (U B : List Pr) (vU : Value) (o i : Value) (wr : World) : Prop :=
  ∃ j N : Nat, N = B.length + j ∧ j ≤ U.length ∧ i = .int .i64 j ∧ wr.ownsRow w.heap.size 55 5 o N (prv (B ++ U.take j)) ∧ wr.ownsRow b0 112 5 vU U.length (prv U) ∧ (∀ b, o.ownBlock = some b → vU.ownBlock ≠ some b) ∧ Below w.heap.size w wr
section
variable {ops : Array Oper} {o : Oper} {a : Act} {w : World} {Q : Exit → Act → World → Prop}
theorem wpList_five1g {E SL : TypeId} (F : Five E SL) {rest : List Oper} (hgd : o.guard = none) (s x : Operand) (ho : o.op = .call { callee := .builtin .append, args := #[s, x], argTypes := #[SL, SL] }) (base : Nat) (v : Value) (n : Nat) (l : List Pr) (hs : a.eval s = v)
    (hown : w.ownsRow base E 5 v n (prv l)) (g : Nat) (r : Pr) (hx : a.eval x = .slice (some ⟨g, 0, none⟩) 1 1) (hg : w.heap[g]? = some (.cells (pr5 r).toArray E (0, 0))) (hb : n ≤ 1000000000) (hbase : base ≤ w.heap.size)
    (h : ∀ g' cap w', w'.ownsRow base E 5 (.slice (some ⟨g', 0, none⟩) (n + 1) cap) (n + 1) (prv (l ++ [r])) → w.grownBy w' v.ownBlock → (v.ownBlock = some g' ∨ g' = w.heap.size) → wpList Try.prog ops Q rest (a.put o.dst (.slice (some ⟨g', 0, none⟩) (n + 1) cap)) w') : wpList Try.prog ops Q (o :: rest) a w := by
  obtain ⟨i0, hi0, hz0, hz1, hz2⟩ := info_parts F.info
  refine wpList_append_lies w hgd s x _ ho base E i0 _ 5 40 F.sl hi0 hz0 hz1 hz2 rfl (by omega) v n _ hs hown ⟨g, 0, none⟩ 1 1 (pr5 r) hx rfl (World.news_of_block (cs := (pr5 r).toArray) hg) (pr5_cell _) (by omega) (by simp only [maxLen]; omega) (by omega) hbase _ rfl ?_
  intro g' cap w' h1 h2 h3 _
  refine h g' cap w' ?_ h2 h3
  rw [prv_append, prv_one]
  exact h1
end
theorem take_one' (l : List Pr) {k : Nat} (h : k < l.length) : l.take (k + 1) = l.take k ++ [l[k]] := List.take_succ_eq_append_getElem h
theorem own_ge' {w : World} {base : Nat} {e : TypeId} {size n : Nat} {v : Value} {xs : List Value} (h : w.ownsRow base e size v n xs) {b : Nat} (hb : v.ownBlock = some b) : base ≤ b ∧ b < w.heap.size := h.lt b hb

@[simp] theorem idx_bools0 (a b : Bool) (w : World) : (Instr.index 135 (.agg #[.bool a, .bool b]) (.int .i64 0)).run Try.prog w = .ok (.bool a) w := by
  have hs : (Try.prog.info? 4).map (·.size) = some 1 := by kernel_rfl
  obtain ⟨i, hi, h1⟩ := Option.map_eq_some_iff.1 hs
  simp [Instr.index, run_underlying Try.underlying135, sizeOf, typeInfo, hi, h1, asIntOf, part, go_sem]
@[simp] theorem idx_bools1 (a b : Bool) (w : World) : (Instr.index 135 (.agg #[.bool a, .bool b]) (.int .i64 1)).run Try.prog w = .ok (.bool b) w := by
  have hs : (Try.prog.info? 4).map (·.size) = some 1 := by kernel_rfl
  obtain ⟨i, hi, h1⟩ := Option.map_eq_some_iff.1 hs
  simp [Instr.index, run_underlying Try.underlying135, sizeOf, typeInfo, hi, h1, asIntOf, part, go_sem]
@[simp] theorem bool_cells (h : 4 < Try.prog.types.size) : (Try.prog.types[4]'h).size = 1 := by
  have hs : (Try.prog.types[4]?).map (·.size) = some 1 := by kernel_rfl
  rw [Array.getElem?_eq_getElem h] at hs
  simpa using hs
theorem dump_next {w wr w3 w4 : World} {b0 j N g' cap : Nat} {U B : List Pr} {vU vo : Value} {y : Pr} {obj : Obj} (hN : N = B.length + j) (hjl : j < U.length) (hy : U[j] = y) (hO : wr.ownsRow w.heap.size 55 5 vo N (prv (B ++ U.take j))) (hU : wr.ownsRow b0 112 5 vU U.length (prv U)) (hne : ∀ b, vo.ownBlock = some b → vU.ownBlock ≠ some b) (hB : Below w.heap.size w wr) (hb : Below wr.heap.size wr w3)
    (ho4 : w4.ownsRow w.heap.size 55 5 (.slice (some ⟨g', 0, none⟩) (N + 1) cap) (N + 1) (prv (B ++ U.take j ++ [y]))) (hg4 : (w3.alloc obj).grownBy w4 vo.ownBlock) (hor : vo.ownBlock = some g' ∨ g' = (w3.alloc obj).heap.size) :
    DumpRel w b0 U B vU (.slice (some ⟨g', 0, none⟩) (N + 1) cap) (.int .i64 ((j : Int) + 1)) w4 := by
  have hlt : ∀ b, vU.ownBlock = some b → b < wr.heap.size := fun b hb' => (hU.lt b hb').2
  have hz3 := hb.size
  have hza : (w3.alloc obj).heap.size = w3.heap.size + 1 := by simp
  refine ⟨j + 1, N + 1, by omega, hjl, by simp, ?_, ?_, ?_, ?_⟩
  · rw [take_one' U hjl, hy, ← List.append_assoc]
    exact ho4
  · refine own_block hU (fun b hb' hl => ?_)
    rw [hg4.block b (by omega) (fun e => hne b e.symm hb'), Below.heap_alloc _ _ b (by omega), hb.block b hl]
  · intro b hb'
    have e : b = g' := by simpa [Value.ownBlock] using hb'.symm
    subst e
    rcases hor with e | e
    · exact hne _ e
    · intro e2
      have := hlt _ e2
      omega
  · have h1 : Below w.heap.size w w3 := hB.trans (hb.mono hB.size)
    have h2 := h1.alloc h1.size obj
    exact h2.grown hg4 h2.size (fun k hk => (hO.lt k hk).1)

set_option maxHeartbeats 2000000 in
/-- The inner loop's contract is walked within Dump. -/
theorem rib_dump {w : World} {r : Nat} {S : Nat → Prop} {n h : Int} {L : List Pr} {most : Nat} (H : RibS w r S n h L most) : Calls Try.prog 23 #[.pointer (some ⟨r, 0, none⟩)] w (RoutesPost w L) := by
  obtain ⟨t, m, S0, D, HA, hI, rfl⟩ := H
  have hln : L.length ≤ 4096 := by have := hI.few; have := hI.n0; omega
  have hs := HA.tree.srt
  have hae := all_eq hs
  have hl4 := List.length_filter_le (fun x : Pr => pcov root4 x.p) L
  have hl6 := List.length_filter_le (fun x : Pr => pcov root6 x.p) L
  obtain ⟨L4, hL4⟩ : ∃ l, (L.filter fun x => pcov root4 x.p) = l := ⟨_, rfl⟩
  obtain ⟨L6, hL6⟩ : ∃ l, (L.filter fun x => pcov root6 x.p) = l := ⟨_, rfl⟩
  have c4 : ∀ W, RibA W r t m S0 D n h L most (hopsL L) → Calls Try.prog 68 #[.pointer (some ⟨t, 0, none⟩), .agg #[.int .u64 0, .int .u64 0, .bool false, .int .i64 0]] W (ListPost W L4) := fun W hA => by
    have := trie_under hA.tree root4
    rw [hL4] at this
    exact this
  have c6 : ∀ W, RibA W r t m S0 D n h L most (hopsL L) → Calls Try.prog 68 #[.pointer (some ⟨t, 0, none⟩), .agg #[.int .u64 0, .int .u64 0, .bool true, .int .i64 0]] W (ListPost W L6) := fun W hA => by
    have := trie_under hA.tree root6
    rw [hL6] at this
    exact this
  rw [hL4] at hae hl4
  rw [hL6] at hae hl6
  have HAA := Lib.hid HA
  have C4 := Lib.hid c4
  have C6 := Lib.hid c6
  have HE := Lib.hid hae
  have hsum : L4.length + L6.length = L.length := by rw [← hae, List.length_append]
  have HSUM := Lib.hid hsum
  clear HA hI hs hae hL4 hL6 c4 c6 hsum
  go_enter Try.func23, Try.ntmps23
  go_wp2_with fail
  refine wp_loop_rounds 3 ?_
  rw [rounds_succ]
  go_wp2_with fail
  refine (routes_any HAA.out).mono ?_
  rintro e w1 ⟨rfl, rfl⟩
  go_wp2_with fail
  refine (C4.out _ HAA.out).mono ?_
  rintro e w2 ⟨v2, rfl, ho2, hw2⟩
  have HO2 := Lib.hid ho2
  have HA2 := Lib.hid (HAA.out.keep hw2)
  obtain ⟨A2, d2, rfl, -⟩ := own_val ho2
  clear ho2
  go_wp2_with fail
  go_loopw [3, 19] (fun o i wr => DumpRel w w.heap.size L4 [] (.slice A2 L4.length d2) o i wr) (fun _ i _ => L4.length - (intOf i).toNat)
  case atStart => exact ⟨0, 0, rfl, Nat.zero_le _, rfl, World.ownsRow_nil _ _ _ _, HO2.out, (fun b hb => by cases hb), hw2⟩
  case round =>
    obtain ⟨j, N, hN, hj, rfl, hown, hU, hne, hB⟩ := hrel
    have HO := Lib.hid hown
    have hN9 : N ≤ 1000000 := by (try simp only [List.length_nil] at hN); omega
    have HN := Lib.hid hN
    clear hN
    have HU := Lib.hid hU
    have HNE := Lib.hid hne
    obtain ⟨A5, c5, rfl, -⟩ := own_val hown
    have hz := hB.size
    clear hown hU hne
    by_cases hjl : j < L4.length
    · obtain ⟨g, cg, eg, -, zg, hcc⟩ := row_cell HU.out rfl hjl
      simp only [Value.slice.injEq, true_and] at eg
      obtain ⟨rfl, rfl⟩ := eg
      have m0 : wr.cell? ⟨g, j * 5, none⟩ = some (.int .u64 (u L4[j].p.a.hi)) := hcc 0 (by omega)
      have m1 : wr.cell? ⟨g, j * 5 + 1, none⟩ = some (.int .u64 (u L4[j].p.a.lo)) := hcc 1 (by omega)
      have m2 : wr.cell? ⟨g, j * 5 + 2, none⟩ = some (.bool L4[j].p.a.v6) := hcc 2 (by omega)
      have m3 : wr.cell? ⟨g, j * 5 + 3, none⟩ = some (.int .i64 L4[j].p.n) := hcc 3 (by omega)
      have m4 : wr.cell? ⟨g, j * 5 + 4, none⟩ = some (.int .i64 L4[j].v) := hcc 4 (by omega)
      obtain ⟨y, hy⟩ : ∃ y, L4[j] = y := ⟨_, rfl⟩
      rw [hy] at m0 m1 m2 m3 m4
      have HY := Lib.hid hy
      have hgz : ¬ g = wr.heap.size := by omega
      clear hcc hy
      go_wp2_with fail
      refine (route_any y _).mono ?_
      rintro e w3 ⟨rfl, hw3⟩
      have bb : Below wr.heap.size wr w3 := below_of (by go_grown) hw3
      have HO3 := Lib.hid (own_fresh HO.out bb)
      have z3 := bb.size
      clear hw3 m0 m1 m2 m3 m4
      go_wp2_with (
        at_builtin
        refine wpList_five1g five_route rfl (.tmp 23) (.tmp 26) rfl w.heap.size _ N ([] ++ L4.take j) (by rfl) (HO3.out.alloc _) w3.heap.size y (by rfl) (heap_alloc_new w3 _) (by omega) (by simp; omega) ?_
        intro g' cap w4 ho4 hg4 hor
        have HD := Lib.hid (dump_next HN.out hjl HY.out HO.out HU.out HNE.out hB bb ho4 hg4 hor)
        clear ho4 hg4 hor
        )
      go_roundw
      case rel =>
        have := HD.out
        exact this
      case measure => simp [intOf]; omega
    · obtain rfl : j = L4.length := by omega
      have e1 := HO.out
      rw [List.take_length, List.nil_append] at e1
      have HE1 := Lib.hid e1
      have hN4 : N = L4.length := by have := HN.out; simpa using this
      have HN4 := Lib.hid hN4
      have HA3 := Lib.hid (HAA.out.keep hB)
      have t1 : decide ((L4.length : Int) < (L4.length : Int)) = false := by simp
      clear e1 hN4 HO HU HNE HN HA2 HO2 hw2
      go_wp2_with fail
      rw [rounds_succ]
      go_wp2_with fail
      refine (routes_any HA3.out).mono ?_
      rintro e w3 ⟨rfl, rfl⟩
      go_wp2_with fail
      refine (C6.out _ HA3.out).mono ?_
      rintro e w6 ⟨v6, rfl, ho6, hw6⟩
      have HO6 := Lib.hid ho6
      have HE6 := Lib.hid (own_fresh HE1.out hw6)
      have b6 := hB.trans (hw6.mono hz)
      have hne6 : ∀ b, (Value.slice A5 N c5).ownBlock = some b → v6.ownBlock ≠ some b := fun b hb e => by
        have h1 := (HE1.out.lt b hb).2
        have h2 := (ho6.lt b e).1
        omega
      obtain ⟨A6, d6, rfl, -⟩ := own_val ho6
      have HNE6 := Lib.hid hne6
      obtain ⟨w3, rfl⟩ : ∃ w3, w3 = wr := ⟨_, rfl⟩
      clear ho6 hne6 hw6 HE1
      go_wp2_with fail
      go_loopw [3, 19] (fun o i wr => DumpRel w w3.heap.size L6 L4 (.slice A6 L6.length d6) o i wr) (fun _ i _ => L6.length - (intOf i).toNat)
      case atStart => exact ⟨0, N, HN4.out, Nat.zero_le _, rfl, by rw [List.take_zero, List.append_nil]; exact HE6.out, HO6.out, HNE6.out, b6⟩
      case round =>
        clear hB hz
        obtain ⟨j, N, hN, hj, rfl, hown, hU, hne, hB⟩ := hrel
        have HO := Lib.hid hown
        have hN9 : N ≤ 1000000 := by (try simp only [List.length_nil] at hN); omega
        have HN := Lib.hid hN
        clear hN
        have HU := Lib.hid hU
        have HNE := Lib.hid hne
        obtain ⟨A5, c5, rfl, -⟩ := own_val hown
        have hz := hB.size
        clear hown hU hne
        by_cases hjl : j < L6.length
        · obtain ⟨g, cg, eg, -, zg, hcc⟩ := row_cell HU.out rfl hjl
          simp only [Value.slice.injEq, true_and] at eg
          obtain ⟨rfl, rfl⟩ := eg
          have m0 : wr.cell? ⟨g, j * 5, none⟩ = some (.int .u64 (u L6[j].p.a.hi)) := hcc 0 (by omega)
          have m1 : wr.cell? ⟨g, j * 5 + 1, none⟩ = some (.int .u64 (u L6[j].p.a.lo)) := hcc 1 (by omega)
          have m2 : wr.cell? ⟨g, j * 5 + 2, none⟩ = some (.bool L6[j].p.a.v6) := hcc 2 (by omega)
          have m3 : wr.cell? ⟨g, j * 5 + 3, none⟩ = some (.int .i64 L6[j].p.n) := hcc 3 (by omega)
          have m4 : wr.cell? ⟨g, j * 5 + 4, none⟩ = some (.int .i64 L6[j].v) := hcc 4 (by omega)
          obtain ⟨y, hy⟩ : ∃ y, L6[j] = y := ⟨_, rfl⟩
          rw [hy] at m0 m1 m2 m3 m4
          have HY := Lib.hid hy
          have hgz : ¬ g = wr.heap.size := by omega
          clear hcc hy
          go_wp2_with fail
          refine (route_any y _).mono ?_
          rintro e w3 ⟨rfl, hw3⟩
          have bb : Below wr.heap.size wr w3 := below_of (by go_grown) hw3
          have HO3 := Lib.hid (own_fresh HO.out bb)
          have z3 := bb.size
          clear hw3 m0 m1 m2 m3 m4
          go_wp2_with (
            at_builtin
            refine wpList_five1g five_route rfl (.tmp 23) (.tmp 26) rfl w.heap.size _ N (L4 ++ L6.take j) (by rfl) (HO3.out.alloc _) w3.heap.size y (by rfl) (heap_alloc_new w3 _) (by omega) (by simp; omega) ?_
            intro g' cap w4 ho4 hg4 hor
            have HD := Lib.hid (dump_next HN.out hjl HY.out HO.out HU.out HNE.out hB bb ho4 hg4 hor)
            clear ho4 hg4 hor
            )
          go_roundw
          case rel =>
            have := HD.out
            exact this
          case measure => simp [intOf]; omega
        · obtain rfl : j = L6.length := by omega
          have e1 := HO.out
          rw [List.take_length, HE.out] at e1
          have hN6 : N = L.length := by rw [HN.out, HSUM.out]
          rw [hN6] at e1
          have HE1 := Lib.hid e1
          have HN6 := Lib.hid hN6
          have t2 : decide ((L6.length : Int) < (L6.length : Int)) = false := by simp
          clear e1 hN6 HO HU HNE HN
          go_wp2_with fail
          rw [rounds_succ]
          go_wp2
          go_ret
          exact ⟨_, (by rw [← HN6.out]; rfl), HE1.out, hB⟩

end Go.Proofs.Ythdnpilkkegniaa

namespace Go.Proofs.Ythdnpilkkegniaa
open Go.RowKit Go.Maps
set_option maxRecDepth 100000

def rdoQ (n h : Int) (x : Ac) (L : List Pr) : List Pr := if x.out = true then delQ x.p L else addQ n h L x.p x.v
def rdoM (n h : Int) (x : Ac) (L : List Pr) (most : Nat) : Nat := if x.out = true then most else addM n h L x.p x.v most
def rdoE (n h : Int) (x : Ac) (L : List Pr) : Int := if x.out = true then delE x.p L else addE n h L x.p x.v
section
variable {w : World} {r : Nat} {S : Nat → Prop} {n h : Int} {L : List Pr} {most : Nat}
theorem RibPost.wide {w0 w' : World} {v : Value} {e : Ending} (hb : Below w0.heap.size w0 w) (hp : RibPost r S w n h L most v e w') : RibPost r S w0 n h L most v e w' := by
  obtain ⟨he, S', h1, h2, h3⟩ := hp
  exact ⟨he, S', h1, (frm_of_below (S := S) hb).trans h2 (Sub.refl _ _), fun b hb' => (h3 b hb').imp id (fun h => by have := hb.size; omega)⟩
set_option maxHeartbeats 1000000 in
theorem rdo_any (H : RibS w r S n h L most) (hb : most + 128 ≤ 1000000000) (x : Ac) :
    Calls Try.prog 22 #[.pointer (some ⟨r, 0, none⟩), .agg #[.bool x.out, .int .u64 (u x.p.a.hi), .int .u64 (u x.p.a.lo), .bool x.p.a.v6, .int .i64 x.p.n, .int .i64 x.v]] w (fun e w' => RibPost r S w n h (rdoQ n h x L) (rdoM n h x L most) (.int .i64 (rdoE n h x L)) e w' ∧ rdoM n h x L most ≤ most + 128) := by
  have HT := Lib.hid H

  clear H
  cases hx : x.out
  · have HD : Hid (rdoQ n h x L = addQ n h L x.p x.v ∧ rdoM n h x L most = addM n h L x.p x.v most ∧ rdoE n h x L = addE n h L x.p x.v) := by unfold rdoQ rdoM rdoE; rw [hx]; exact ⟨rfl, rfl, rfl⟩
    clear hx
    go_enter Try.func22, Try.ntmps22
    go_wp2_with fail
    have hbw : Below w.heap.size w (w.alloc (.cells #[.bool false, .int .u64 (u x.p.a.hi), .int .u64 (u x.p.a.lo), .bool x.p.a.v6, .int .i64 x.p.n, .int .i64 x.v] 53)) := by go_grown
    refine (rib_add (HT.out.keep hbw) hb x.p x.v).mono ?_
    rintro e w1 ⟨hp, g4⟩
    obtain ⟨rfl, -⟩ := id hp
    have HP := Lib.hid (hp.wide hbw)
    clear hp
    go_wp2
    go_ret
    rw [HD.out.1, HD.out.2.1, HD.out.2.2]
    exact ⟨HP.out, g4⟩
  · have HD : Hid (rdoQ n h x L = delQ x.p L ∧ rdoM n h x L most = most ∧ rdoE n h x L = delE x.p L) := by unfold rdoQ rdoM rdoE; rw [hx]; exact ⟨rfl, rfl, rfl⟩
    clear hx
    go_enter Try.func22, Try.ntmps22
    go_wp2_with fail
    have hbw : Below w.heap.size w (w.alloc (.cells #[.bool true, .int .u64 (u x.p.a.hi), .int .u64 (u x.p.a.lo), .bool x.p.a.v6, .int .i64 x.p.n, .int .i64 x.v] 53)) := by go_grown
    refine (rib_withdraw (HT.out.keep hbw) hb x.p).mono ?_
    rintro e w1 hp
    obtain ⟨rfl, -⟩ := id hp
    have HP := Lib.hid (hp.wide hbw)
    clear hp
    go_wp2
    go_ret
    rw [HD.out.1, HD.out.2.1, HD.out.2.2]
    exact ⟨HP.out, Nat.le_add_right _ _⟩
end
/-- What is there behind the first k things. -/
def rplays (n h : Int) : List Ac → List Pr × Nat
  | [] => ([], 2)
  | x :: r => (rdoQ n h x (rplays n h r).1, rdoM n h x (rplays n h r).1 (rplays n h r).2)
def rplayK (n h : Int) (ls : List Ac) (k : Nat) : List Pr × Nat := rplays n h (ls.take k).reverse
theorem rplayK_succ (n h : Int) (ls : List Ac) (k : Nat) (hk : k < ls.length) : rplayK n h ls (k + 1) = (rdoQ n h ls[k] (rplayK n h ls k).1, rdoM n h ls[k] (rplayK n h ls k).1 (rplayK n h ls k).2) := by
  unfold rplayK
  rw [List.take_succ_eq_append_getElem hk, List.reverse_append]
  rfl
/-- At the head of a round of things done: the routes are what the first k of them leave; their blocks are from N on. -/
def RPlayRel (w : World) (N r : Nat) (n h : Int) (ls : List Ac) (P : World → Prop) (i : Value) (wr : World) : Prop :=
  ∃ (k : Nat) (S : Nat → Prop), k ≤ ls.length ∧ i = .int .i64 k ∧ RibS wr r S n h (rplayK n h ls k).1 (rplayK n h ls k).2 ∧ (rplayK n h ls k).2 ≤ 2 + 128 * k ∧ (∀ b, S b → N ≤ b) ∧ Below w.heap.size w wr ∧ N ≤ wr.heap.size ∧ P wr
theorem rplay_next {w0 wr w2 : World} {N r : Nat} {n h : Int} {ls : List Ac} {k : Nat} {S S2 : Nat → Prop} (hk : k < ls.length) (hN : ∀ b, S b → N ≤ b) (hz : N ≤ wr.heap.size) (hN0 : w0.heap.size ≤ N) (hB : Below w0.heap.size w0 wr)
    (g1 : RibS w2 r S2 n h (rdoQ n h ls[k] (rplayK n h ls k).1) (rdoM n h ls[k] (rplayK n h ls k).1 (rplayK n h ls k).2)) (g2 : Frm S wr w2) (g3 : Sub S S2 wr.heap.size) (g4 : rdoM n h ls[k] (rplayK n h ls k).1 (rplayK n h ls k).2 ≤ (rplayK n h ls k).2 + 128) (hm : (rplayK n h ls k).2 ≤ 2 + 128 * k) :
    RibS w2 r S2 n h (rplayK n h ls (k + 1)).1 (rplayK n h ls (k + 1)).2 ∧ (rplayK n h ls (k + 1)).2 ≤ 2 + 128 * (k + 1) ∧ (∀ b, S2 b → N ≤ b) ∧ Below w0.heap.size w0 w2 ∧ N ≤ w2.heap.size ∧ Below N wr w2 := by
  have hbn : Below N wr w2 := g2.below hN hz
  rw [rplayK_succ n h ls k hk]
  refine ⟨g1, by simp only; omega, fun b hb => ?_, hB.trans (hbn.mono hN0), Nat.le_trans hz g2.size, hbn⟩
  rcases g3 b hb with e | e
  · exact hN b e
  · omega

theorem exR : addE 9 1 [] (pof adA 8) 1 = 0 ∧ addE 9 1 (addQ 9 1 [] (pof adA 8) 1) (pof adA 8) 2 = 0 ∧ addE 9 1 (addQ 9 1 (addQ 9 1 [] (pof adA 8) 1) (pof adA 8) 2) (pof adA 9) 1 = 3 ∧ addQ 9 1 (addQ 9 1 (addQ 9 1 [] (pof adA 8) 1) (pof adA 8) 2) (pof adA 9) 1 = [⟨pof adA 8, 2⟩] ∧ longL [⟨pof adA 8, 2⟩] adA = some ⟨pof adA 8, 2⟩ ∧ addM 9 1 [] (pof adA 8) 1 2 = 10 ∧ addM 9 1 (addQ 9 1 [] (pof adA 8) 1) (pof adA 8) 2 10 = 10 ∧ addM 9 1 (addQ 9 1 (addQ 9 1 [] (pof adA 8) 1) (pof adA 8) 2) (pof adA 9) 1 10 = 10 := by decide +kernel

end Go.Proofs.Ythdnpilkkegniaa

namespace Go.Proofs.Ythdnpilkkegniaa
open Go.RowKit Go.Maps
set_option maxRecDepth 100000

set_option maxHeartbeats 2000000 in
theorem awake6_gen (a : Ad) (w : World) (ea : fromv exA false = a) (L1 L2 : List Pr) (x : Pr) (hx : x.v = 2) (q1 : addQ 9 1 [] (pof a 8) 1 = L1) (q2 : addQ 9 1 L1 (pof a 8) 2 = L2) (q3 : addQ 9 1 L2 (pof a 9) 1 = [x]) (h1 : addE 9 1 [] (pof a 8) 1 = 0) (h2 : addE 9 1 L1 (pof a 8) 2 = 0) (h3 : addE 9 1 L2 (pof a 9) 1 = 3) (h4 : longL [x] a = some x)
    (m1 : addM 9 1 [] (pof a 8) 1 2 = 10) (m2 : addM 9 1 L1 (pof a 8) 2 10 = 10) (m3 : addM 9 1 L2 (pof a 9) 1 10 = 10) :
    Calls Try.prog 20 #[] w fun e w' => e = .returned (.bool true) ∧ Below w.heap.size w w' := by
  have hFa := fun (g : Nat) (W : World) hg hc => from_four g 0 4 exA (by intro j _; unfold exA; omega) W hg hc
  rw [ea] at hFa
  have HFa := Lib.hid hFa
  have K1 := Lib.hid h1
  have K2 := Lib.hid h2
  have K3 := Lib.hid h3
  have K4 := Lib.hid h4
  have K5 := Lib.hid hx
  have Q1 : Hid (addQ 9 1 [] (pof a 8) 1 = L1 ∧ addM 9 1 [] (pof a 8) 1 2 = 10) := Lib.hid ⟨q1, m1⟩
  have Q2 : Hid (addQ 9 1 L1 (pof a 8) 2 = L2 ∧ addM 9 1 L1 (pof a 8) 2 10 = 10) := Lib.hid ⟨q2, m2⟩
  have Q3 : Hid (addQ 9 1 L2 (pof a 9) 1 = [x] ∧ addM 9 1 L2 (pof a 9) 1 10 = 10) := Lib.hid ⟨q3, m3⟩
  clear hFa ea h1 h2 h3 h4 hx q1 q2 q3 m1 m2 m3
  go_enter Try.func20, Try.ntmps20
  go_wp2_with fail
  refine (HFa.out w.heap.size _ ?_ ?_).mono ?_
  · simp
  · intro j hj
    have hj' : j = 0 ∨ j = 1 ∨ j = 2 ∨ j = 3 := by omega
    rcases hj' with rfl | rfl | rfl | rfl <;> rw [cell_new (by simp)] <;> rfl
  rintro e w1 ⟨rfl, hw1⟩
  have zw1 := hw1.size
  have bw1 := below_of (w := w) (by go_grown) hw1
  try simp at zw1
  clear hw1
  go_wp2_with fail
  refine (rib_new 9 1 _).mono ?_
  rintro e w2 ⟨r, S2, rfl, hT2, hb2, hS2⟩
  have hR2 : RibS w2 r S2 9 1 [] 2 := hT2
  have hA2 : ABox w2 w1.heap.size a := ABox.keep ⟨by go_simp <;> rfl, by go_simp <;> rfl, by go_simp <;> rfl, by go_size⟩ hb2
  have bB : Below w.heap.size w w2 := Below.trans (by go_grown) (hb2.mono (by simp; omega))
  have n2 : ∀ b, S2 b → w1.heap.size < b := fun b hb => by have := hS2 b hb; simp at this; omega
  have HR := Lib.hid hR2
  have HA := Lib.hid hA2
  have HN := Lib.hid n2
  obtain ⟨pa, pb, pc, pz⟩ := id hA2
  have z2 := bB.size
  clear hT2 hR2 hb2 hS2 hA2 n2
  have yA : w1.heap.size < w2.heap.size := pz
  go_wp2_with fail
  refine (pof_any a 8 _).mono ?_
  rintro e x1 ⟨rfl, hx1⟩
  have bx1 := bB.trans (hx1.mono (by omega))
  have HRx := Lib.hid (HR.out.keep hx1)
  have HAx := Lib.hid (HA.out.keep hx1)
  have yx1 := hx1.size
  clear hx1 HR HA pa pb pc pz
  have cA := rib_add HRx.out (by omega) (pof a 8) 1
  rw [K1.out, Q1.out.1, Q1.out.2] at cA
  have CA := Lib.hid cA
  clear cA
  go_wp2_with fail
  refine CA.out.mono ?_
  rintro e x2 ⟨⟨rfl, S2, g1, g2, g3⟩, -⟩
  have bx2 : Below w.heap.size w x2 := bx1.trans (g2.below (fun b hb => by have := HN.out b hb; omega) (by omega))
  have nn : ∀ b, S2 b → w1.heap.size < b := fun b hb => by
    rcases g3 b hb with e | e
    · exact HN.out b e
    · omega
  have HR2 := Lib.hid g1
  have HA2 := Lib.hid (HAx.out.frm g2 (fun e => by have := HN.out _ e; omega))
  have HN2 := Lib.hid nn
  have yx2 := g2.size
  clear g1 g2 g3 nn HN bB HRx HAx CA
  obtain ⟨w9, rfl⟩ : ∃ w9, w9 = x2 := ⟨_, rfl⟩
  have HR := HR2
  have HA := HA2
  have HN := HN2
  have bB := bx2
  have yB : w1.heap.size < w9.heap.size := by omega
  clear HR2 HA2 HN2 bx2 bx1 yx1 yx2
  obtain ⟨pa, pb, pc, pz⟩ := id HA.out
  go_wp2_with fail
  refine (pof_any a 8 _).mono ?_
  rintro e x1 ⟨rfl, hx1⟩
  have bx1 := bB.trans (hx1.mono (by omega))
  have HRx := Lib.hid (HR.out.keep hx1)
  have HAx := Lib.hid (HA.out.keep hx1)
  have yx1 := hx1.size
  clear hx1 HR HA pa pb pc pz
  have cA := rib_add HRx.out (by omega) (pof a 8) 2
  rw [K2.out, Q2.out.1, Q2.out.2] at cA
  have CA := Lib.hid cA
  clear cA
  go_wp2_with fail
  refine CA.out.mono ?_
  rintro e x2 ⟨⟨rfl, S2, g1, g2, g3⟩, -⟩
  have bx2 : Below w.heap.size w x2 := bx1.trans (g2.below (fun b hb => by have := HN.out b hb; omega) (by omega))
  have nn : ∀ b, S2 b → w1.heap.size < b := fun b hb => by
    rcases g3 b hb with e | e
    · exact HN.out b e
    · omega
  have HR2 := Lib.hid g1
  have HA2 := Lib.hid (HAx.out.frm g2 (fun e => by have := HN.out _ e; omega))
  have HN2 := Lib.hid nn
  have yx2 := g2.size
  clear g1 g2 g3 nn HN bB HRx HAx CA
  obtain ⟨w9, rfl⟩ : ∃ w9, w9 = x2 := ⟨_, rfl⟩
  have HR := HR2
  have HA := HA2
  have HN := HN2
  have bB := bx2
  have yB : w1.heap.size < w9.heap.size := by omega
  clear HR2 HA2 HN2 bx2 bx1 yx1 yx2
  obtain ⟨pa, pb, pc, pz⟩ := id HA.out
  go_wp2_with fail
  refine (pof_any a 9 _).mono ?_
  rintro e x1 ⟨rfl, hx1⟩
  have bx1 := bB.trans (hx1.mono (by omega))
  have HRx := Lib.hid (HR.out.keep hx1)
  have HAx := Lib.hid (HA.out.keep hx1)
  have yx1 := hx1.size
  clear hx1 HR HA pa pb pc pz
  have cA := rib_add HRx.out (by omega) (pof a 9) 1
  rw [K3.out, Q3.out.1, Q3.out.2] at cA
  have CA := Lib.hid cA
  clear cA
  go_wp2_with fail
  refine CA.out.mono ?_
  rintro e x2 ⟨⟨rfl, S2, g1, g2, g3⟩, -⟩
  have bx2 : Below w.heap.size w x2 := bx1.trans (g2.below (fun b hb => by have := HN.out b hb; omega) (by omega))
  have nn : ∀ b, S2 b → w1.heap.size < b := fun b hb => by
    rcases g3 b hb with e | e
    · exact HN.out b e
    · omega
  have HR2 := Lib.hid g1
  have HA2 := Lib.hid (HAx.out.frm g2 (fun e => by have := HN.out _ e; omega))
  have HN2 := Lib.hid nn
  have yx2 := g2.size
  clear g1 g2 g3 nn HN bB HRx HAx CA
  obtain ⟨w9, rfl⟩ : ∃ w9, w9 = x2 := ⟨_, rfl⟩
  have HR := HR2
  have HA := HA2
  have HN := HN2
  have bB := bx2
  have yB : w1.heap.size < w9.heap.size := by omega
  clear HR2 HA2 HN2 bx2 bx1 yx1 yx2
  obtain ⟨pa, pb, pc, pz⟩ := id HA.out
  have cl := rib_longest HR.out a
  unfold OptPost at cl
  rw [K4.out] at cl
  simp only [Option.getD_some, Option.isSome_some] at cl
  rw [K5.out] at cl
  have CL := Lib.hid cl
  clear cl
  go_wp2_with fail
  refine CL.out.mono ?_
  rintro e v5 ⟨rfl, hv5⟩
  have HR5 := Lib.hid (HR.out.keep hv5)
  have b5 := bB.trans (hv5.mono (by omega))
  have z5 := hv5.size
  clear hv5 HR HA pa pb pc CL
  go_wp2_with fail
  refine (rib_dump (HR5.out.keep (by go_grown))).mono ?_
  rintro e v6 ⟨d6, rfl, ho6, hv6⟩
  have b6 : Below w.heap.size w v6 := b5.trans (Below.trans (by go_grown) (hv6.mono (by simp; omega)))
  obtain ⟨A6, c6, rfl, -⟩ := own_val ho6
  clear ho6 hv6
  go_wp2
  go_ret
  exact ⟨rfl, b6⟩
theorem awake6_any (w : World) : Calls Try.prog 20 #[] w fun e w' => e = .returned (.bool true) ∧ Below w.heap.size w w' :=
  awake6_gen adA w exA_from _ _ ⟨pof adA 8, 2⟩ rfl rfl rfl exR.2.2.2.1 exR.1 exR.2.1 exR.2.2.1 exR.2.2.2.2.1 exR.2.2.2.2.2.1 exR.2.2.2.2.2.2.1 exR.2.2.2.2.2.2.2

end Go.Proofs.Ythdnpilkkegniaa

namespace Go.Proofs.Ythdnpilkkegniaa
open Go.RowKit Go.Maps
set_option maxRecDepth 100000

theorem i64_and16 (n : Int) : bits .and .i64 n 65535 = n % 65536 := by
  have hm : (BitVec.ofInt 64 65535).toNat = 2 ^ 16 - 1 := by decide
  have key : (BitVec.ofInt 64 n &&& BitVec.ofInt 64 65535).toNat = (n % ((2 ^ 64 : Nat) : Int)).toNat % 2 ^ 16 := by
    rw [BitVec.toNat_and, BitVec.toNat_ofInt, hm, Nat.and_two_pow_sub_one_eq_mod]
  show IntKind.i64.wrap ((BitVec.ofInt 64 n &&& BitVec.ofInt 64 65535).toNat : Nat) = n % 65536
  rw [key, IntKind.wrap_i64]
  omega
theorem i64_and5 (n : Int) : bits .and .i64 n 31 = n % 32 := by
  have hm : (BitVec.ofInt 64 31).toNat = 2 ^ 5 - 1 := by decide
  have key : (BitVec.ofInt 64 n &&& BitVec.ofInt 64 31).toNat = (n % ((2 ^ 64 : Nat) : Int)).toNat % 2 ^ 5 := by
    rw [BitVec.toNat_and, BitVec.toNat_ofInt, hm, Nat.and_two_pow_sub_one_eq_mod]
  show IntKind.i64.wrap ((BitVec.ofInt 64 n &&& BitVec.ofInt 64 31).toNat : Nat) = n % 32
  rw [key, IntKind.wrap_i64]
  omega
theorem i64_and3 (n : Int) : bits .and .i64 n 7 = n % 8 := by
  have hm : (BitVec.ofInt 64 7).toNat = 2 ^ 3 - 1 := by decide
  have key : (BitVec.ofInt 64 n &&& BitVec.ofInt 64 7).toNat = (n % ((2 ^ 64 : Nat) : Int)).toNat % 2 ^ 3 := by
    rw [BitVec.toNat_and, BitVec.toNat_ofInt, hm, Nat.and_two_pow_sub_one_eq_mod]
  show IntKind.i64.wrap ((BitVec.ofInt 64 n &&& BitVec.ofInt 64 7).toNat : Nat) = n % 8
  rw [key, IntKind.wrap_i64]
  omega
theorem own_frm {S : Nat → Prop} {w w' : World} {base : Nat} {e : TypeId} {size n : Nat} {v : Value} {xs : List Value} (h : w.ownsRow base e size v n xs) (hf : Frm S w w') (hn : ∀ b, v.ownBlock = some b → ¬ S b) : w'.ownsRow base e size v n xs := own_block h (fun b hb hl => hf.block b hl (hn b hb))
theorem sub_not {S S' : Nat → Prop} {m b : Nat} (g3 : Sub S S' m) (hb : b < m) (hn : ¬ S b) : ¬ S' b := fun e => by
  rcases g3 b e with h | h
  · exact hn h
  · omega
theorem QBox.frm {S : Nat → Prop} {w w' : World} {b : Nat} {x : Pr} (h : QBox w b x) (hf : Frm S w w') (hn : ¬ S b) : QBox w' b x := by
  obtain ⟨h0, h1, h2, h3, h4, hz⟩ := h
  exact ⟨(hf.cell (p := ⟨b, 0, none⟩) hz hn).trans h0, (hf.cell (p := ⟨b, 1, none⟩) hz hn).trans h1, (hf.cell (p := ⟨b, 2, none⟩) hz hn).trans h2, (hf.cell (p := ⟨b, 3, none⟩) hz hn).trans h3, (hf.cell (p := ⟨b, 4, none⟩) hz hn).trans h4, Nat.lt_of_lt_of_le hz hf.size⟩
theorem QBox.keep {w w' : World} {b : Nat} {x : Pr} (h : QBox w b x) (hf : Below w.heap.size w w') : QBox w' b x := h.frm (frm_of_below (S := fun _ => False) hf) id
theorem put_same {L : List Pr} (hs : Srt L) {x : Pr} (hx : x ∈ L) : putL x.p x.v L = L := by
  have hp := hs.1 x hx
  refine srt_ext (put_srt hs hp) hs (fun y => ?_)
  rw [mem_put hs hp]
  constructor
  · rintro (rfl | ⟨h, _⟩)
    · exact hx
    · exact h
  · intro hy
    by_cases e : y.p = x.p
    · left
      have h1 := lk_some hs hy
      have h2 := lk_some hs hx
      rw [e, h2] at h1
      cases y
      simp_all
    · exact .inr ⟨hy, e⟩
theorem put_back {L : List Pr} (hs : Srt L) {x : Pr} (hx : x ∈ L) : putL x.p x.v (delL x.p L) = L := by
  have hp := hs.1 x hx
  refine srt_ext (put_srt (del_srt hs) hp) hs (fun y => ?_)
  rw [mem_put (del_srt hs) hp, mem_del]
  constructor
  · rintro (rfl | ⟨⟨h, _⟩, _⟩)
    · exact hx
    · exact h
  · intro hy
    by_cases e : y.p = x.p
    · left
      have h1 := lk_some hs hy
      have h2 := lk_some hs hx
      rw [e, h2] at h1
      cases y
      simp_all
    · exact .inr ⟨⟨hy, e⟩, e⟩
theorem add_ok {n h : Int} {L L' : List Pr} {p : Pf} {k : Int} (hp : psane p = true) (hk : 0 ≤ k ∧ k ≤ 65535) (he : putL p k L = L') (hI : Inv n h L') : addE n h L p k = 0 ∧ addQ n h L p k = L' := by
  have h1 : addE n h L p k = 0 := by
    unfold addE fitsB
    rw [if_pos hp, if_pos hk, he]
    have e1 : decide ((L'.length : Int) ≤ n) = true := decide_eq_true hI.few
    have e2 : decide ((unl (hopsL L') : Int) ≤ h) = true := decide_eq_true hI.like
    rw [e1, e2]
    rfl
  refine ⟨h1, ?_⟩
  unfold addQ
  rw [if_pos h1, he]
theorem RibS.inv {w : World} {r : Nat} {S : Nat → Prop} {n h : Int} {L : List Pr} {most : Nat} (H : RibS w r S n h L most) : Inv n h L := by
  obtain ⟨t, m, S0, D, _, hI, _⟩ := H
  exact hI
/-- A route in a box and a row of routes, beside the blocks S. -/
def Beside (w : World) (S : Nat → Prop) (xb : Nat) (x : Pr) (base : Nat) (vd : Value) (L : List Pr) : Prop := QBox w xb x ∧ ¬ S xb ∧ w.ownsRow base 55 5 vd L.length (prv L) ∧ ∀ b, vd.ownBlock = some b → ¬ S b ∧ b < w.heap.size
theorem Beside.frm {w w' : World} {S S' : Nat → Prop} {xb base : Nat} {x : Pr} {vd : Value} {L : List Pr} (h : Beside w S xb x base vd L) (hf : Frm S w w') (g3 : Sub S S' w.heap.size) : Beside w' S' xb x base vd L := by
  obtain ⟨h1, h2, h3, h4⟩ := h
  refine ⟨h1.frm hf h2, sub_not g3 h1.2.2.2.2.2 h2, own_frm h3 hf (fun b hb => (h4 b hb).1), fun b hb => ⟨sub_not g3 (h4 b hb).2 (h4 b hb).1, Nat.lt_of_lt_of_le (h4 b hb).2 hf.size⟩⟩
theorem Beside.keep {w w' : World} {S : Nat → Prop} {xb base : Nat} {x : Pr} {vd : Value} {L : List Pr} (h : Beside w S xb x base vd L) (hb : Below w.heap.size w w') : Beside w' S xb x base vd L := h.frm (frm_of_below hb) (Sub.refl _ _)
theorem ge_sub {S S' : Nat → Prop} {m N : Nat} (h : ∀ b, S b → N ≤ b) (g3 : Sub S S' m) (hm : N ≤ m) : ∀ b, S' b → N ≤ b := fun b hb => by
  rcases g3 b hb with e | e
  · exact h b e
  · omega

end Go.Proofs.Ythdnpilkkegniaa

namespace Go.Proofs.Ythdnpilkkegniaa
open Go.RowKit Go.Maps
set_option maxRecDepth 100000

/-- Whether one of the first k contains an address and is y. -/
def fndK (L : List Pr) (a : Ad) (y : Pr) (k : Nat) : Bool := (L.take k).any fun x => pcon x.p a && decide (x = y)
theorem fndK_succ (L : List Pr) (a : Ad) (y : Pr) {k : Nat} (h : k < L.length) : fndK L a y (k + 1) = (fndK L a y k || (pcon L[k].p a && decide (L[k] = y))) := by
  unfold fndK
  rw [List.take_succ_eq_append_getElem h, List.any_append]
  simp
theorem fnd_all {L : List Pr} {a : Ad} : fndK L a ((longL L a).getD nilPr) L.length = (longL L a).isSome := by
  unfold fndK
  rw [List.take_length]
  cases hl : longL L a with
  | none =>
    simp only [Option.isSome_none]
    rw [List.any_eq_false]
    intro x hx hc
    simp only [Bool.and_eq_true] at hc
    unfold longL at hl
    rw [List.getLast?_eq_none_iff] at hl
    have : x ∈ L.filter fun x => pcon x.p a := List.mem_filter.2 ⟨hx, hc.1⟩
    rw [hl] at this
    cases this
  | some y =>
    obtain ⟨h1, h2⟩ := long_mem hl
    simp only [Option.isSome_some, Option.getD_some]
    exact List.any_eq_true.2 ⟨y, h1, by simp [h2]⟩

end Go.Proofs.Ythdnpilkkegniaa

namespace Go.Proofs.Ythdnpilkkegniaa
open Go.RowKit Go.Maps
set_option maxRecDepth 100000

theorem unl_snoc (l : List Int) (x : Int) : unl (l ++ [x]) = unl l + if x ∈ l then 0 else 1 := by
  rw [unl_perm (List.perm_append_comm : (l ++ [x]).Perm ([x] ++ l))]
  rfl
/-- How many unlike hops the first k have. -/
def unlK (T : List Pr) (k : Nat) : Nat := unl (hopsL (T.take k))
theorem unlK_succ (T : List Pr) {k : Nat} (h : k < T.length) : unlK T (k + 1) = unlK T k + if T[k].v ∈ hopsL (T.take k) then 0 else 1 := by
  unfold unlK hopsL
  rw [List.take_succ_eq_append_getElem h, List.map_append]
  exact unl_snoc _ _
theorem unlK_le (T : List Pr) (k : Nat) : unlK T k ≤ T.length := by
  unfold unlK
  have h1 := unl_le (hopsL (T.take k))
  unfold hopsL at h1 ⊢
  rw [List.length_map, List.length_take] at h1
  omega
/-- Is none of the first k of that hop? -/
def fstK (T : List Pr) (v : Int) (k : Nat) : Bool := (T.take k).all fun x => decide (x.v ≠ v)
theorem fstK_succ (T : List Pr) (v : Int) {k : Nat} (h : k < T.length) : fstK T v (k + 1) = (fstK T v k && decide (T[k].v ≠ v)) := by
  unfold fstK
  rw [List.take_succ_eq_append_getElem h, List.all_append]
  simp
theorem fstK_mem (T : List Pr) (v : Int) (k : Nat) : fstK T v k = !decide (v ∈ hopsL (T.take k)) := by
  unfold fstK
  rw [Bool.eq_iff_iff]
  simp only [List.all_eq_true, decide_eq_true_eq, Bool.not_eq_true', decide_eq_false_iff_not]
  constructor
  · intro h hm
    obtain ⟨x, hx, e⟩ := mem_hops.1 hm
    exact h x hx e
  · intro h x hx e
    exact h (mem_hops.2 ⟨x, hx, e⟩)

end Go.Proofs.Ythdnpilkkegniaa

namespace Go.Proofs.Ythdnpilkkegniaa
open Go.RowKit Go.Maps
set_option maxRecDepth 100000

/-- What there would be then, of the first k. -/
def thenK (L : List Pr) (x : Pr) (k : Nat) : List Pr := x :: (L.take k).filter fun y => decide (y.p ≠ x.p)
theorem thenK_succ (L : List Pr) (x : Pr) {k : Nat} (h : k < L.length) : thenK L x (k + 1) = thenK L x k ++ if L[k].p = x.p then [] else [L[k]] := by
  unfold thenK
  rw [List.take_succ_eq_append_getElem h, List.filter_append, List.cons_append]
  congr 2
  by_cases e : L[k].p = x.p
  · simp [e]
  · simp [e]
theorem thenK_len (L : List Pr) (x : Pr) (k : Nat) : (thenK L x k).length ≤ L.length + 1 := by
  unfold thenK
  have h1 := List.length_filter_le (fun y : Pr => decide (y.p ≠ x.p)) (L.take k)
  rw [List.length_take] at h1
  simp only [List.length_cons]
  omega
theorem then_perm {L : List Pr} {x : Pr} (h : Srt L) (hp : psane x.p = true) : (putL x.p x.v L).Perm (thenK L x L.length) := by
  unfold thenK
  rw [List.take_length]
  exact put_perm h hp
theorem then_len {L : List Pr} {x : Pr} (h : Srt L) (hp : psane x.p = true) : (putL x.p x.v L).length = (thenK L x L.length).length := (then_perm h hp).length_eq
theorem then_unl {L : List Pr} {x : Pr} (h : Srt L) (hp : psane x.p = true) : unl (hopsL (putL x.p x.v L)) = unlK (thenK L x L.length) (thenK L x L.length).length := by
  unfold unlK
  rw [List.take_length]
  exact unl_perm ((then_perm h hp).map _)
/-- What was put governs itself. -/
theorem gov_put {L : List Pr} {x : Pr} (h : Srt L) (hp : psane x.p = true) : govL (putL x.p x.v L) x.p = some x := by
  unfold govL
  have hs := put_srt (v := x.v) h hp
  have hm : x ∈ (putL x.p x.v L).filter fun y => pcov y.p x.p := List.mem_filter.2 ⟨(mem_put h hp x).2 (.inl rfl), cov_refl _ hp⟩
  have hsf := filter_srt hs (fun y => pcov y.p x.p)
  obtain ⟨i, hi, hx⟩ := List.getElem_of_mem hm
  generalize hF : ((putL x.p x.v L).filter fun y => pcov y.p x.p) = F at hi hx hsf
  have hne : F ≠ [] := fun e => by rw [e] at hi; cases hi
  rw [List.getLast?_eq_some_getLast hne, List.getLast_eq_getElem]
  rcases Nat.lt_or_ge i (F.length - 1) with e | e
  · exfalso
    have h1 := List.pairwise_iff_getElem.1 hsf.2 i (F.length - 1) hi (by omega) e
    have h2 : F[F.length - 1] ∈ ((putL x.p x.v L).filter fun y => pcov y.p x.p) := by rw [hF]; exact List.getElem_mem _
    have h3 := cov_cmp (List.mem_filter.1 h2).2
    rw [hx] at h1
    have h4 := pcmp_anti x.p F[F.length - 1].p
    omega
  · have : F.length - 1 = i := by omega
    simp only [this, hx]
def goodB (x : Pr) : Bool := psane x.p && (decide (0 ≤ x.v) && decide (x.v ≤ 65535))
set_option maxHeartbeats 1000000 in
theorem goodr_any (x : Pr) (w : World) : Calls Try.prog 27 #[.agg #[.int .u64 (u x.p.a.hi), .int .u64 (u x.p.a.lo), .bool x.p.a.v6, .int .i64 x.p.n, .int .i64 x.v]] w fun e w' => e = .returned (.bool (goodB x)) ∧ Below w.heap.size w w' := by
  have hg : goodB x = (psane x.p && (decide (0 ≤ x.v) && decide (x.v ≤ 65535))) := rfl
  have HG := Lib.hid hg
  clear hg
  go_enter Try.func27, Try.ntmps27
  go_wp2_with fail
  refine (rpsane_any x.p _).mono ?_
  rintro e w1 ⟨rfl, hw1⟩
  have b1 : Below w.heap.size w w1 := below_of (by go_grown) hw1
  have c4 : w1.cell? ⟨w.heap.size, 4, none⟩ = some (.int .i64 x.v) := (hw1.cell (by go_size)).trans (by go_simp <;> rfl)
  clear hw1
  cases hp : psane x.p
  · rw [hp] at HG
    go_wp2
    go_ret
    exact ⟨by rw [HG.out]; rfl, b1⟩
  · rw [hp] at HG
    by_cases h1 : 0 ≤ x.v
    · have t1 : decide (0 ≤ x.v) = true := decide_eq_true h1
      rw [t1] at HG
      go_wp2
      go_ret
      exact ⟨ret_bool HG.out.symm, b1⟩
    · have t1 : decide (0 ≤ x.v) = false := decide_eq_false h1
      rw [t1] at HG
      go_wp2
      go_ret
      exact ⟨by rw [HG.out]; rfl, b1⟩

end Go.Proofs.Ythdnpilkkegniaa

namespace Go.Proofs.Ythdnpilkkegniaa
open Go.RowKit Go.Maps
set_option maxRecDepth 100000

theorem filter_all {α : Type} {p : α → Bool} {l : List α} (h : ∀ x ∈ l, p x = true) : l.filter p = l := List.filter_eq_self.2 h
theorem put_permF {p : Pf} {v : Int} (hp : psane p = true) : ∀ {L : List Pr}, Srt L → (putL p v L).Perm (L.filter (fun x => decide (x.p ≠ p)) ++ [⟨p, v⟩]) := by
  intro L
  induction L with
  | nil => intro _; exact List.Perm.refl _
  | cons x l ih =>
    intro h
    obtain ⟨h1, h2, h3⟩ := srt_cons.1 h
    have hself : pcmp p p = 0 := (pcmp_eq hp hp).2 rfl
    unfold putL
    split
    · rename_i hc
      have hne : x.p ≠ p := fun e => by rw [e, hself] at hc; omega
      rw [List.filter_cons_of_pos (by simpa using hne)]
      exact (ih h3).cons x
    · rename_i hc
      split
      · rename_i hz
        have he : x.p = p := (pcmp_eq h1 hp).1 hz
        rw [List.filter_cons_of_neg (by simpa using he), filter_all (fun y hy => by
          have := h2 y hy
          rw [he] at this
          simp only [decide_eq_true_eq]
          intro e
          rw [e, hself] at this
          omega)]
        exact (List.perm_append_comm (l₁ := [⟨p, v⟩]) (l₂ := l))
      · rename_i hz
        have hall : ∀ y ∈ x :: l, decide (y.p ≠ p) = true := fun y hy => by
          simp only [decide_eq_true_eq]
          rcases List.mem_cons.1 hy with e | e
          · rw [e]
            intro e
            rw [e, hself] at hz
            exact hz rfl
          · intro e2
            have := h2 y e
            rw [e2] at this
            exact hc this
        rw [filter_all hall]
        exact (List.perm_append_comm (l₁ := [⟨p, v⟩]) (l₂ := x :: l))
theorem delq_filter {p : Pf} {L : List Pr} (he : delE p L = 0) : delQ p L = L.filter (fun y => decide (y.p ≠ p)) := by
  unfold delE at he
  unfold delQ
  by_cases e : psane p = true
  · rw [if_pos e]
    rfl
  · rw [if_neg e] at he
    cases he
theorem lk_noneF {p : Pf} : ∀ {L : List Pr}, lk L p = none → ∀ y ∈ L, y.p ≠ p := by
  intro L
  induction L with
  | nil => intro _ y hy; cases hy
  | cons x l ih =>
    intro h y hy
    rw [lk_cons] at h
    split at h
    · cases h
    · rename_i hne
      rcases List.mem_cons.1 hy with e | e
      · rw [e]
        exact hne
      · exact ih h y e
theorem delq_stay {p : Pf} {L : List Pr} (he : delE p L ≠ 0) : delQ p L = L := by
  unfold delE at he
  unfold delQ
  by_cases e : psane p = true
  · rw [if_pos e] at he ⊢
    by_cases e2 : (lk L p).isSome = true
    · rw [if_pos e2] at he
      exact absurd rfl he
    · have hn : lk L p = none := by
        cases h : lk L p with
        | none => rfl
        | some v => rw [h] at e2; exact absurd rfl e2
      exact filter_all fun y hy => by
        simp only [decide_eq_true_eq]
        exact lk_noneF hn y hy
  · rw [if_neg e]
def lastS (x : Ac) (T : List Pr) : List Pr := T.filter (fun y => decide (y.p ≠ x.p)) ++ (if x.out = true then [] else [⟨x.p, x.v⟩])
theorem last_step {n h : Int} {L T : List Pr} {x : Ac} (hs : Srt L) (hp : T.Perm L) (he : rdoE n h x L = 0) : (lastS x T).Perm (rdoQ n h x L) := by
  unfold lastS rdoQ
  unfold rdoE at he
  cases hx : x.out
  · rw [hx] at he
    simp only [Bool.false_eq_true, if_false] at he ⊢
    have hq : addQ n h L x.p x.v = putL x.p x.v L := by unfold addQ; rw [if_pos he]
    have hsane : psane x.p = true := by
      unfold addE at he
      by_cases e : psane x.p = true
      · exact e
      · rw [if_neg e] at he
        cases he
    rw [hq]
    exact ((hp.filter _).append_right _).trans (put_permF hsane hs).symm
  · rw [hx] at he
    simp only [if_true] at he ⊢
    rw [List.append_nil]
    have hq : delQ x.p L = L.filter (fun y => decide (y.p ≠ x.p)) := delq_filter he
    rw [hq]
    exact hp.filter _
theorem last_stay {n h : Int} {L : List Pr} {x : Ac} (he : rdoE n h x L ≠ 0) : rdoQ n h x L = L := by
  unfold rdoE at he
  unfold rdoQ
  cases hx : x.out
  · rw [hx] at he
    simp only [Bool.false_eq_true, if_false] at he ⊢
    unfold addQ
    rw [if_neg he]
  · rw [hx] at he
    simp only [if_true] at he ⊢
    exact delq_stay he
end Go.Proofs.Ythdnpilkkegniaa

namespace Go.Proofs.Ythdnpilkkegniaa
open Go.RowKit

section
variable {P : Program} {ops : Array Oper} {md : Region.Mode} {C : World → Prop}

def sink1B (md : Region.Mode) (ops : Array Oper) (n : Nat) : Bool :=
  (List.range n).all fun i => i == 0 || (List.range (n + 1)).any fun j => decide (i < j) && Region.waitsFor md ops j i
structure Inv1 (md : Region.Mode) (ops : Array Oper) (n : Nat) (listed : Array Bool) : Prop where
  head : HeadInv md ops n listed
  zero : listed.getD 0 false = true
theorem Inv1.set {n i : Nat} {listed : Array Bool} (inv : Inv1 md ops n listed) (hi : i ∈ Region.ready md ops listed) (hin : i < n) : Inv1 md ops n (listed.setIfInBounds i true) :=
  ⟨inv.head.set hi hin, getD_set_true inv.zero⟩
theorem waits1 {n : Nat} {listed : Array Bool} (hs : sink1B md ops n = true) (hc : Region.chainB md ops n = true) (inv : Inv1 md ops n listed) :
    ∀ (d i : Nat), n - i = d → i < n → listed.getD i true = false → ∀ t, n ≤ t → t ∉ Region.ready md ops listed := by
  intro d
  induction d using Nat.strongRecOn with
  | _ d ih =>
    intro i hd hi hun t ht hr
    obtain ⟨_, ot, hot, hall⟩ := mem_ready.1 hr
    have htlt : t < ops.size := (Array.getElem?_eq_some_iff.1 hot).1
    have hi0 : i ≠ 0 := by
      intro e
      subst e
      have := inv.zero
      rw [getD_both hun] at this
      cases this
    by_cases htn : t = n
    · subst htn
      have h1 := List.all_eq_true.1 hs i (List.mem_range.2 hi)
      simp only [Bool.or_eq_true, beq_iff_eq] at h1
      obtain ⟨j, hj, hj2⟩ := List.any_eq_true.1 (h1.resolve_left hi0)
      simp only [Bool.and_eq_true, decide_eq_true_eq] at hj2
      obtain ⟨oj, hoj, e, he, hb, hon⟩ := Region.waitsFor_spec hj2.2
      have hjle : j ≤ t := by have := List.mem_range.1 hj; omega
      by_cases hjt : j = t
      · subst hjt
        have : oj = ot := Option.some.inj (hoj.symm.trans hot)
        subst this
        have h2 := hall e he hb
        rw [hon, getD_both hun] at h2
        cases h2
      · cases hl : listed.getD j false with
        | true =>
          have h2 := inv.head.closed j oj hoj hl e he hb
          rw [hon, getD_both hun] at h2
          cases h2
        | false =>
          have hjs : j < listed.size := by rw [inv.head.size]; omega
          exact ih (t - j) (by omega) j rfl (by omega) (getD_in hjs hl) t (Nat.le_refl _) hr
    · have h1 := List.all_eq_true.1 hc t (List.mem_range.2 htlt)
      simp only [Bool.or_eq_true, decide_eq_true_eq] at h1
      rcases h1 with h1 | h1
      · omega
      · obtain ⟨o', ho', e, he, hb, hon⟩ := Region.waitsFor_spec h1
        have : o' = ot := Option.some.inj (ho'.symm.trans hot)
        subst this
        have h2 := hall e he hb
        rw [hon, getD_both (inv.head.tail (t - 1) (by omega) (by omega))] at h2
        cases h2

theorem AnyHead.first1 {n i : Nat} {oi : Oper} {v : Value} {L : Array Bool → Act → Prop} (hi : ops[i]? = some oi) (hsel : ∀ (j : Nat) (o : Oper) cs b, ops[j]? = some o → o.op ≠ .select cs b)
    (hs : sink1B md ops n = true) (hc : Region.chainB md ops n = true) (hin : i < n) (hL : ∀ done a, L done a → ∀ j ∈ Region.ready md ops done, n ≤ j) (f : Nat) :
    ∀ (done : Array Bool) (a : Act), Inv1 md ops n done →
      (∀ j oj, ops[j]? = some oj → j ≠ i → done.getD j true = false → (∀ e ∈ oj.after, Region.binds md e = true → e.on ≠ i) → oi.apart ops oj = true) →
      i ∈ Region.ready md ops done → YieldsIn P ops C oi v a → AnyHead P md ops C n L f (done.setIfInBounds i true) (a.put oi.dst v) → AnyHead P md ops C n L (f + 1) done a := by
  induction f with
  | zero =>
    intro done a inv _ hr hy H
    refine ⟨List.ne_nil_of_mem hr, fun j hj => ?_⟩
    rcases Nat.lt_or_ge j n with hjn | hjn
    · refine ⟨hjn, ?_⟩
      by_cases e : j = i
      · subst e
        exact hy.qOp hi H
      · exact absurd (hL _ _ H j (ready_mono hj e)) (by omega)
    · exact absurd hj (waits1 hs hc inv _ i rfl hin (mem_ready.1 hr).1 j hjn)
  | succ f ih =>
    intro done a inv hfree hr hy H
    refine ⟨List.ne_nil_of_mem hr, fun j hj => ?_⟩
    rcases Nat.lt_or_ge j n with hjn | hjn
    · refine ⟨hjn, ?_⟩
      by_cases e : j = i
      · subst e
        exact hy.qOp hi H
      · obtain ⟨hjun, oj, hoj, hall⟩ := mem_ready.1 hj
        have hno : ∀ e ∈ oj.after, Region.binds md e = true → e.on ≠ i := by
          intro e he hb heq
          have h1 := hall e he hb
          rw [heq, getD_both (mem_ready.1 hr).1] at h1
          cases h1
        have h2 := qOp_put hoj (hfree j oj hoj e hjun hno) (fun cs b => hsel i oi cs b hi) (fun cs b => hsel j oj cs b hoj) hy (H.2 j (ready_mono hj e)).2
        refine qOp_mono (fun a' h3 => ih _ a' (inv.set hj hjn) (fun k ok hk hki hun hno' => hfree k ok hk hki ?_ hno') (ready_mono hr (Ne.symm e)) h3.1 ?_) h2
        · by_cases hjk : j = k
          · subst hjk; exact hjun
          · rwa [getD_set_ne true hjk] at hun
        · rw [Array.setIfInBounds_comm _ _ e]
          exact h3.2
    · exact absurd hj (waits1 hs hc inv _ i rfl hin (mem_ready.1 hr).1 j hjn)

theorem AnyHead.lex1 {n g : Nat} {R : Act → Prop} (hsel : Region.noSelect ops = true) (hs : sink1B md ops n = true) (hc : Region.chainB md ops n = true) (l : List Oper) :
    ∀ (k : Nat) (done : Array Bool) (a : Act), (∀ j, j < l.length → l[j]? = ops[k + j]?) → k + l.length = n → Inv1 md ops n done → Region.lexHead md ops g l.length k done = true →
      wpQuiet P ops C R l a → AnyHead P md ops C n (fun done' a' => Region.seqB md ops g n done' = true ∧ R a') l.length done a := by
  induction l with
  | nil =>
    intro k done a _ hk _ hB h
    obtain rfl : k = n := by simpa using hk
    exact ⟨by simpa [Region.lexHead] using hB, h⟩
  | cons o l ih =>
    intro k done a hl hk inv hB h
    have h0 : ops[k]? = some o := by simpa using (hl 0 (by simp)).symm
    simp only [List.length_cons, Region.lexHead, Bool.and_eq_true] at hB
    simp only [List.length_cons] at hk
    have hr : k ∈ Region.ready md ops done := by simpa using hB.1.1
    have hq : qOp P ops C k (wpQuiet P ops C R l) a := by unfold qOp; simp only [h0]; exact h
    obtain ⟨v, hy, hK⟩ := yieldsIn_of_qOp h0 hq
    refine AnyHead.first1 h0 (Region.noSelect_spec hsel) hs hc (by omega) (fun d' a' h' => seqB_ready h'.1) l.length done a inv (Region.free_spec h0 hB.1.2) hr hy ?_
    refine ih (k + 1) _ _ (fun j hj => ?_) (by omega) (inv.set hr (by omega)) hB.2 hK
    have := hl (j + 1) (by simp; omega)
    simpa [Nat.add_assoc, Nat.add_comm 1 j] using this

/-- What can be reckoned of the region. -/
def tail1B (ops : Array Oper) (n : Nat) : Bool :=
  Region.noSelect ops && decide (n < ops.size) && decide (1 ≤ n) && sink1B .any ops n && Region.chainB .any ops n && Region.free .any ops (Array.replicate ops.size false) 0 && (Region.ready .any ops (Array.replicate ops.size false)).contains 0 &&
    ((ops[0]?).map fun o => o.after.isEmpty).getD false && Region.lexHead .any ops (ops.size - n) (n - 1) 1 ((Array.replicate ops.size false).setIfInBounds 0 true)

theorem region_head_tail1 {id : Nat} {Q : Exit → Act → World → Prop} {a : Act} {w : World} {o0 : Oper} {l : List Oper} (n : Nat) (v : Value) (hm : P.follows .mixedOrders = true) (hB : tail1B (o0 :: l).toArray n = true) (hC : C w.drew)
    (hy : Yields P (o0 :: l).toArray o0 v a) (hQ : ∀ c a w, Q (.panic c) (a.put o0.dst v) w → Q (.panic c) a w)
    (h : wpQuiet P (o0 :: l).toArray C (fun a' => ∀ w', C w' → wpList P (o0 :: l).toArray Q (l.drop (n - 1)) a' w') (l.take (n - 1)) (a.put o0.dst v)) : (Code.region id (o0 :: l).toArray true).wp P Q a w := by
  simp only [tail1B, Bool.and_eq_true, decide_eq_true_eq] at hB
  obtain ⟨⟨⟨⟨⟨⟨⟨⟨hsel, hn⟩, hn1⟩, hs⟩, hc⟩, hfr⟩, hrd⟩, haf⟩, hlex⟩ := hB
  generalize hops : (o0 :: l).toArray = ops at *
  have hsz : ops.size = l.length + 1 := by rw [← hops]; simp
  have h00 : ops[0]? = some o0 := by rw [← hops]; simp
  have ht : (l.take (n - 1)).length = n - 1 := by simp; omega
  have hd : (l.drop (n - 1)).length = ops.size - n := by simp; omega
  have inv : Inv1 .any ops n ((Array.replicate ops.size false).setIfInBounds 0 true) := by
    refine ⟨⟨by simp, fun j oj hj hl e he hb => ?_, fun t ht' ht2 => ?_⟩, ?_⟩
    · by_cases hj0 : 0 = j
      · subst hj0
        obtain rfl : oj = o0 := Option.some.inj (hj.symm.trans h00)
        rw [h00] at haf
        simp at haf
        rw [haf] at he
        simp at he
      · rw [getD_set_ne false hj0, getD_replicate_false] at hl
        cases hl
    · rw [getD_set_ne true (by omega)]
      exact getD_in (by simpa using ht2) (getD_replicate_false _ _)
    · simp
      omega
  have H := AnyHead.lex1 (md := .any) (g := ops.size - n) hsel hs hc (l.take (n - 1)) 1 _ (a.put o0.dst v) (fun j hj => by
    rw [ht] at hj
    rw [← hops]
    simp [hj, Nat.add_comm 1 j]) (by rw [ht]; omega) inv (by rw [ht]; exact hlex) h
  refine wp_region_any hm ?_
  have K := AnyHead.any (Q := Q) (g := ops.size - n) (fun done a' w' hw' hL => by
    have := wpAny_of_seq (md := .any) (Q' := Q) (l.drop (n - 1)) n done a' w' (fun j => by
      rw [← hops, show n + j = (n - 1 + j) + 1 by omega]
      simp [List.getElem?_drop]) (by rw [hd]; exact hL.1) (hL.2 w' hw')
    rwa [hd] at this) _ _ _ w.drew hC H
  rw [ht] at K
  have K2 := wpAny_take (md := .any) (Q := Q) h00 hsel hfr hrd hQ hy K
  rw [show n - 1 + (ops.size - n) + 1 = ops.size by omega] at K2
  exact K2
end

theorem region_tail1 {P : Program} {id : Nat} {Q : Exit → Act → World → Prop} {a : Act} {w : World} {o0 : Oper} {l : List Oper} (n B : Nat) (v : Value) (hm : P.follows .mixedOrders = true) (hB : tail1B (o0 :: l).toArray n = true)
    (hy : Yields P (o0 :: l).toArray o0 v a) (hQ : ∀ c a w, Q (.panic c) (a.put o0.dst v) w → Q (.panic c) a w)
    (h : wpQuiet P (o0 :: l).toArray (fun w' => ∃ x : Later B w, w' = x.at) (fun a' => ∀ x : Later B w, wpList P (o0 :: l).toArray Q (l.drop (n - 1)) a' x.at) (l.take (n - 1)) (a.put o0.dst v)) : (Code.region id (o0 :: l).toArray true).wp P Q a w :=
  region_head_tail1 (C := fun w' => ∃ x : Later B w, w' = x.at) n v hm hB ⟨⟨w.drew, (Below.refl _ _).drew⟩, rfl⟩ hy hQ (by
    have e : (fun a' => ∀ w', (∃ x : Later B w, w' = x.at) → wpList P (o0 :: l).toArray Q (l.drop (n - 1)) a' w') = (fun a' => ∀ x : Later B w, wpList P (o0 :: l).toArray Q (l.drop (n - 1)) a' x.at) := by
      funext a'
      apply propext
      exact ⟨fun k x => k _ ⟨x, rfl⟩, fun k w' ⟨x, hx⟩ => hx ▸ k x⟩
    rw [e]
    exact h)

end Go.Proofs.Ythdnpilkkegniaa

namespace Go.Proofs.Ythdnpilkkegniaa
open Go.RowKit Go.Maps
set_option maxRecDepth 100000

/-- A route that lies at an address. -/
def FBox (w : World) (g o : Nat) (x : Pr) : Prop := w.cell? ⟨g, o, none⟩ = some (.int .u64 (u x.p.a.hi)) ∧ w.cell? ⟨g, o + 1, none⟩ = some (.int .u64 (u x.p.a.lo)) ∧ w.cell? ⟨g, o + 2, none⟩ = some (.bool x.p.a.v6) ∧ w.cell? ⟨g, o + 3, none⟩ = some (.int .i64 x.p.n) ∧ w.cell? ⟨g, o + 4, none⟩ = some (.int .i64 x.v) ∧ g < w.heap.size
theorem FBox.keep {w w' : World} {g o : Nat} {x : Pr} (h : FBox w g o x) (hb : Below w.heap.size w w') : FBox w' g o x := by
  obtain ⟨c0, c1, c2, c3, c4, hz⟩ := h
  exact ⟨(hb.cell (p := ⟨g, o, none⟩) hz).trans c0, (hb.cell (p := ⟨g, o + 1, none⟩) hz).trans c1, (hb.cell (p := ⟨g, o + 2, none⟩) hz).trans c2, (hb.cell (p := ⟨g, o + 3, none⟩) hz).trans c3, (hb.cell (p := ⟨g, o + 4, none⟩) hz).trans c4, Nat.lt_of_lt_of_le hz hb.size⟩
theorem five_at {w : World} {base n c : Nat} {E : TypeId} {A : Option Addr} {l : List Pr} (h : w.ownsRow base E 5 (.slice A n c) n (prv l)) (hn : n = l.length) {k : Nat} (hk : k < l.length) : ∃ g, A = some ⟨g, 0, none⟩ ∧ FBox w g (k * 5) l[k] := by
  obtain ⟨g, c', e, -, hz, hcc⟩ := row_cell h hn hk
  simp only [Value.slice.injEq, true_and] at e
  exact ⟨g, e.1, hcc 0 (by decide), hcc 1 (by decide), hcc 2 (by decide), hcc 3 (by decide), hcc 4 (by decide), hz⟩
def keepJ (x : Ac) (T : List Pr) (j : Nat) : List Pr := (T.take j).filter (fun y => decide (y.p ≠ x.p))
theorem keepJ_succ (x : Ac) (T : List Pr) {j : Nat} (hj : j < T.length) : keepJ x T (j + 1) = keepJ x T j ++ (if T[j].p ≠ x.p then [T[j]] else []) := by
  unfold keepJ
  rw [List.take_succ_eq_append_getElem hj, List.filter_append]
  congr 1
  by_cases h : T[j].p ≠ x.p
  · rw [if_pos h, List.filter_cons_of_pos (by simpa using h)]
    rfl
  · rw [if_neg h, List.filter_cons_of_neg (by simpa using h)]
    rfl
theorem keepJ_len (x : Ac) (T : List Pr) (j : Nat) : (keepJ x T j).length ≤ T.length := by
  unfold keepJ
  have h1 := List.length_filter_le (fun y : Pr => decide (y.p ≠ x.p)) (T.take j)
  have h2 : (T.take j).length ≤ T.length := by rw [List.length_take]; omega
  omega
theorem keepJ_all (x : Ac) (T : List Pr) : keepJ x T T.length = T.filter (fun y => decide (y.p ≠ x.p)) := by
  unfold keepJ
  rw [List.take_length]
/-- At the head of a round of the first loop. -/
def RDumpRel (w : World) (r : Nat) (n h : Int) (ls : List Ac) (v i : Value) (wr : World) : Prop :=
  ∃ (k : Nat) (S : Nat → Prop) (T : List Pr) (A : Option Addr) (c : Nat), v = .slice A T.length c ∧ k ≤ ls.length ∧ i = .int .i64 k ∧ RibS wr r S n h (rplayK n h ls k).1 (rplayK n h ls k).2 ∧ (rplayK n h ls k).2 ≤ 2 + 128 * k ∧ (∀ b, S b → w.heap.size ≤ b) ∧ Below w.heap.size w wr ∧
    wr.ownsRow w.heap.size 55 5 (.slice A T.length c) T.length (prv T) ∧ (∀ b, S b → (Value.slice A T.length c).ownBlock ≠ some b) ∧ T.Perm (rplayK n h ls k).1

end Go.Proofs.Ythdnpilkkegniaa

namespace Go.Proofs.Ythdnpilkkegniaa
open Go.RowKit Go.Maps Go.Sort Go.Shelf
set_option maxRecDepth 100000

/-- Each once. -/
def ddL : List Int → List Int
  | [] => []
  | x :: r => if x ∈ ddL r then ddL r else x :: ddL r
theorem mem_dd : ∀ (l : List Int) (x : Int), x ∈ ddL l ↔ x ∈ l := by
  intro l
  induction l with
  | nil => intro x; exact Iff.rfl
  | cons y r ih =>
    intro x
    unfold ddL
    split
    · rename_i hy
      rw [ih, List.mem_cons]
      exact ⟨.inr, fun e => e.elim (fun e => e ▸ (ih y).1 hy) id⟩
    · rw [List.mem_cons, List.mem_cons, ih]
theorem nodup_dd : ∀ l : List Int, (ddL l).Nodup := by
  intro l
  induction l with
  | nil => exact List.nodup_nil
  | cons y r ih =>
    unfold ddL
    split
    · exact ih
    · rename_i hy
      exact List.nodup_cons.2 ⟨hy, ih⟩
/-- The hops, rising, each once. -/
def hopS (L : List Pr) : List Int := (ddL (hopsL L)).mergeSort leI
theorem hopS_len (L : List Pr) : (hopS L).length = unl (hopsL L) := by
  unfold hopS
  rw [List.length_mergeSort]
  exact unl_dist (nodup_dd _) (mem_dd _)
theorem dd_perm {w : World} {m n : Nat} {D : DataW Unit} {hs : List Int} (h : cnts w m n D) (hu : Uses D hs) : (ddL hs).Perm (intKeys D) := by
  have hc : CollectedI D (fun _ => false) (ddL hs) := ⟨nodup_dd hs, fun x => by
    rw [mem_dd, hu.has x]
    simp only [decide_eq_true_eq, and_true]
    exact List.count_pos_iff.symm⟩
  exact hc.perm h lawI Try.underlying3 (fun _ => rfl)
/-- A fresh row of numbers. -/
def IntsPost (w : World) (l : List Int) (e : Ending) (w' : World) : Prop := ∃ v, e = .returned v ∧ w'.ownsRow w.heap.size 3 1 v l.length (l.map encZ) ∧ Below w.heap.size w w'
theorem sorts_any (m : Nat) : AnyZI.SortsIn Try.prog Try.sortedA_ren Fence.wide m :=
  ⟨fun blk off cap ss W hH hblk hsz => callsIn_wide.2 (AnyM.slices_Sort_int Try.sortA blk off cap ss W hH hblk hsz),
   fun p cap W => callsIn_wide.2 (AnyM.slices_Sort_int_none Try.sortA p cap W)⟩
theorem keys_calls (mb : Option Nat) (W : World) : Calls Try.prog 79 #[.map mb] W fun e w' => e = .returned (.func (.func 122) #[] #[.pointer (some ⟨W.heap.size, 0, none⟩)]) ∧ w' = W.alloc (.cells #[.map mb] 132) :=
  (callsIn_wide (n := 5)).1 (AnyZI.keys_in Try.keysA Fence.wide 5 trivial rfl mb W)
theorem sorted_calls {b nn : Nat} {D0 : DataW Unit} (w : World) (hown : cnts w b nn D0) (hz : Maps.size D0 ≤ 100000) : Calls Try.prog 78 #[.func (.func 122) #[] #[.pointer (some ⟨w.heap.size, 0, none⟩)]] (w.alloc (.cells #[.map (some b)] 132)) fun e w' => ∃ (v : Value) (ss : List Int), e = .returned v ∧ ss.Perm (intKeys D0) ∧
      w'.ownsRow (w.alloc (.cells #[.map (some b)] 132)).heap.size 3 1 v ss.length ((ss.mergeSort (fun x y => decide (x ≤ y))).map encZ) ∧ (v = .slice none 0 0 ↔ ss = []) ∧ Below (w.alloc (.cells #[.map (some b)] 132)).heap.size (w.alloc (.cells #[.map (some b)] 132)) w' := by
  refine (callsIn_wide (n := 5)).1 ?_
  have hbl := World.ownsMap.lt hown
  have hseq : SeqGives Fence.wide 2 Try.prog 122 #[.pointer (some ⟨w.heap.size, 0, none⟩)] encZ (fun ss => ss.Perm (intKeys D0)) (Maps.size D0) (w.alloc (.cells #[.map (some b)] 132)) :=
    AnyZI.keys_gives (ρ := Try.keysA_ren) { Try.keysA with } Fence.wide _ trivial rfl (by omega) w.heap.size b nn D0 _ (by simp) (by simp) (by
      obtain ⟨es, clock, hb, Ft, hs, hD⟩ := hown
      exact ⟨es, clock, (Below.heap_alloc _ _ b hbl).trans hb, Ft, hs, hD⟩)
  exact AnyZI.sorted_in Try.sortedA Fence.wide 5 trivial trivial trivial trivial rfl (by omega) (sorts_any _) (enters_of Try.func121 (by kernel_rfl) rfl) 122 #[.pointer (some ⟨w.heap.size, 0, none⟩)] trivial (enters_of Try.func122 (by kernel_rfl) rfl) _ _ (by unfold maxLen; omega) (by omega) _ hseq
set_option maxHeartbeats 1000000 in
theorem rib_hops {w : World} {r : Nat} {S : Nat → Prop} {n h : Int} {L : List Pr} {most : Nat} (H : RibS w r S n h L most) : Calls Try.prog 24 #[.pointer (some ⟨r, 0, none⟩)] w (IntsPost w (hopS L)) := by
  obtain ⟨t, m, S0, D, HA, hI, rfl⟩ := H
  obtain ⟨-, c1, -, -⟩ := HA.cells
  have hsz : Maps.size D ≤ 100000 := by
    rw [HA.uses.size]
    have := hI.like
    have := hI.h0
    omega
  have cS := sorted_calls w HA.map hsz
  have hpm := dd_perm HA.map HA.uses
  have CS := Lib.hid cS
  have HPM := Lib.hid hpm
  clear cS hpm HA hI
  go_enter Try.func24, Try.ntmps24
  go_wp2_with fail
  refine (keys_calls (some m) _).mono ?_
  rintro e w1 ⟨rfl, rfl⟩
  go_wp2_with fail
  refine CS.out.mono ?_
  rintro e w2 ⟨v, ss, rfl, hp, hrow, -, hb⟩
  have hms : ss.mergeSort leI = hopS L := mergeSort_of_perm_i (hp.trans HPM.out.symm)
  have hle : ss.length = (hopS L).length := by rw [← hms, List.length_mergeSort]
  have hr2 : w2.ownsRow w.heap.size 3 1 v (hopS L).length ((hopS L).map encZ) := by
    rw [← hle, ← hms]
    exact own_base hrow (by simp)
  have b2 : Below w.heap.size w w2 := ((Below.refl _ w).alloc (Nat.le_refl _) _).trans (hb.mono (by simp))
  have HR2 := Lib.hid hr2
  obtain ⟨A2, c2, rfl, -⟩ := own_val hr2
  clear hrow hr2 hb hp hms hle
  go_wp2
  go_ret
  exact ⟨_, rfl, HR2.out, b2⟩

end Go.Proofs.Ythdnpilkkegniaa

namespace Go.Proofs.Ythdnpilkkegniaa
open Go.RowKit Go.Maps
set_option maxRecDepth 100000

theorem hop_mem {L : List Pr} {x : Pr} (h : x ∈ L) : x.v ∈ hopS L := by
  unfold hopS
  rw [List.mem_mergeSort, mem_dd]
  exact List.mem_map.2 ⟨x, h, rfl⟩
theorem dd_len : ∀ l : List Int, (ddL l).length ≤ l.length := by
  intro l
  induction l with
  | nil => exact Nat.le_refl _
  | cons y r ih =>
    unfold ddL
    split <;> simp <;> omega
theorem hop_len (L : List Pr) : (hopS L).length ≤ L.length := by
  unfold hopS
  rw [List.length_mergeSort]
  have := dd_len (hopsL L)
  have e : (hopsL L).length = L.length := by unfold hopsL; simp
  omega
theorem hop_rise (L : List Pr) {k : Nat} (hk : k + 1 < (hopS L).length) : (hopS L)[k] < (hopS L)[k + 1] := by
  have hs : (hopS L).Pairwise fun x y => leI x y = true := by
    unfold hopS
    exact List.pairwise_mergeSort (le := leI) (fun a b c h1 h2 => by simp only [leI, decide_eq_true_eq] at h1 h2 ⊢; omega) (fun a b => by simp only [leI, Bool.or_eq_true, decide_eq_true_eq]; omega) _
  have hn : (hopS L).Nodup := by
    unfold hopS
    exact (List.mergeSort_perm _ _).nodup_iff.2 (nodup_dd _)
  have h1 := List.pairwise_iff_getElem.1 hs k (k + 1) (by omega) hk (by omega)
  have h2 := List.pairwise_iff_getElem.1 hn k (k + 1) (by omega) hk (by omega)
  simp only [leI, decide_eq_true_eq] at h1
  omega

end Go.Proofs.Ythdnpilkkegniaa

namespace Go.Proofs.Ythdnpilkkegniaa
open Go.RowKit Go.Maps
set_option maxRecDepth 100000

theorem int_at {w : World} {base n c : Nat} {A : Option Addr} {l : List Int} (h : w.ownsRow base 3 1 (.slice A n c) n (l.map Go.encZ)) (hn : n = l.length) {k : Nat} (hk : k < l.length) : ∃ g, A = some ⟨g, 0, none⟩ ∧ w.cell? ⟨g, k, none⟩ = some (.int .i64 l[k]) ∧ g < w.heap.size := by
  obtain ⟨g, cap, e, hb, hlt⟩ := h.form (by omega)
  simp only [Value.slice.injEq, true_and] at e
  obtain ⟨rfl, rfl⟩ := e
  refine ⟨g, rfl, ?_, hlt⟩
  rw [h.cellAt k (by omega), List.getElem?_map, List.getElem?_eq_getElem hk]
  rfl
theorem idx_route (g n c k : Nat) (h : k < n) (V : World) : (Instr.indexAt 50 (.slice (some ⟨g, 0, none⟩) n c) (.int .i64 (k : Int))).run Try.prog V = .ok (.pointer (some ⟨g, k * 5, none⟩)) V := by
  have h0 : (0 : Int) ≤ (k : Int) := by omega
  have h1 : (k : Int) < (n : Int) := by omega
  go_simp
theorem idx_int (g n c k : Nat) (h : k < n) (V : World) : (Instr.indexAt 57 (.slice (some ⟨g, 0, none⟩) n c) (.int .i64 (k : Int))).run Try.prog V = .ok (.pointer (some ⟨g, k, none⟩)) V := by
  have h0 : (0 : Int) ≤ (k : Int) := by omega
  have h1 : (k : Int) < (n : Int) := by omega
  go_simp
def fndB (T : List Pr) (y : Pr) (q : Nat) : Bool := (T.take q).any fun x => decide (x = y)
theorem fndB_succ (T : List Pr) (y : Pr) {q : Nat} (h : q < T.length) : fndB T y (q + 1) = (fndB T y q || decide (T[q] = y)) := by
  unfold fndB
  rw [List.take_succ_eq_append_getElem h, List.any_append]
  simp
theorem fndB_all {T : List Pr} {y : Pr} (h : y ∈ T) : fndB T y T.length = true := by
  unfold fndB
  rw [List.take_length, List.any_eq_true]
  exact ⟨y, h, by simp⟩
def usdB (H : List Int) (v : Int) (q : Nat) : Bool := (H.take q).any fun x => x == v
theorem usdB_succ (H : List Int) (v : Int) {q : Nat} (h : q < H.length) : usdB H v (q + 1) = (usdB H v q || H[q] == v) := by
  unfold usdB
  rw [List.take_succ_eq_append_getElem h, List.any_append]
  simp
theorem usdB_all {H : List Int} {v : Int} (h : v ∈ H) : usdB H v H.length = true := by
  unfold usdB
  rw [List.take_length, List.any_eq_true]
  exact ⟨v, h, by simp⟩
theorem good_all {n h : Int} {L : List Pr} (hs : Srt L) (hI : Inv n h L) : ∀ x ∈ L, goodB x = true := fun x hx => by
  unfold goodB
  have h1 := hs.1 x hx
  have h2 := hI.hop x hx
  rw [h1, decide_eq_true h2.1, decide_eq_true h2.2]
  rfl

end Go.Proofs.Ythdnpilkkegniaa

namespace Go.Proofs.Ythdnpilkkegniaa
set_option maxRecDepth 100000

theorem pof_128 (a : Ad) : pof a 128 = pof a (wid a.v6) := by
  have h : clamp a.v6 128 = clamp a.v6 (wid a.v6) := by
    unfold clamp wid
    cases a.v6 <;> decide
  unfold pof
  rw [h]
theorem above_con {L : List Pr} (h : Srt L) (a : Ad) : L.filter (fun x => pcov x.p (pof a 128)) = L.filter (fun x => pcon x.p a) := by
  rw [pof_128]
  exact List.filter_congr fun x hx => cov_full (h.1 x hx) a
theorem con_lt {x y : Pf} {a : Ad} (hx : pcon x a = true) (hy : pcon y a = true) (h : pcmp x y < 0) : x.n < y.n := by
  obtain ⟨x1, x2, x3⟩ := (pcon_iff x a).1 hx
  obtain ⟨y1, y2, y3⟩ := (pcon_iff y a).1 hy
  rcases Int.lt_or_le x.n y.n with e | e
  · exact e
  · have hc : pcov y x = true := (pcov_iff y x).2 ⟨y1, x1, e, by rw [← y2, x2], fun j hj => by rw [← x3 j (by omega), y3 j hj]⟩
    have h1 := cov_cmp hc
    have h2 := pcmp_anti x y
    omega
theorem srt_step {L : List Pr} (h : Srt L) {i : Nat} (hi : i + 1 < L.length) : pcmp L[i].p L[i + 1].p = -1 := by
  have h1 := List.pairwise_iff_getElem.1 h.2 i (i + 1) (by omega) hi (by omega)
  have h2 := (pcmp_bd L[i].p L[i + 1].p).1
  omega
theorem con_step {L : List Pr} (h : Srt L) (a : Ad) {i : Nat} (hi : i + 1 < (L.filter fun x => pcon x.p a).length) : (L.filter fun x => pcon x.p a)[i].p.n < (L.filter fun x => pcon x.p a)[i + 1].p.n := by
  have h1 := srt_step (filter_srt h _) hi
  have m1 := (List.mem_filter.1 (List.getElem_mem (Nat.lt_of_succ_lt hi))).2
  have m2 := (List.mem_filter.1 (List.getElem_mem hi)).2
  exact con_lt m1 m2 (by rw [h1]; decide)
/-- Of the pairs of a prefix: itself. -/
def selfL (p : Pf) (L : List Pr) : List Pr := match getQ p L with
  | none => []
  | some v => [⟨p, v⟩]
def kidsL (p : Pf) (L : List Pr) : List Pr := if (pchild p 1).2 = true then (L.filter fun x => pcov (pchild p 0).1 x.p) ++ (L.filter fun x => pcov (pchild p 1).1 x.p) else []
theorem mem_self {p : Pf} {L : List Pr} (h : Srt L) (x : Pr) : x ∈ selfL p L ↔ x ∈ L ∧ x.p = p := by
  unfold selfL getQ
  cases hp : psane p
  · simp only [Bool.false_eq_true, if_false, List.not_mem_nil, false_iff]
    rintro ⟨h1, rfl⟩
    rw [h.1 x h1] at hp
    cases hp
  · simp only [if_true]
    cases hl : lk L p with
    | none =>
      simp only [List.not_mem_nil, false_iff]
      rintro ⟨h1, rfl⟩
      rw [lk_some h h1] at hl
      cases hl
    | some v =>
      simp only [List.mem_singleton]
      constructor
      · rintro rfl
        exact ⟨lk_mem hl, rfl⟩
      · rintro ⟨h1, rfl⟩
        rw [lk_some h h1] at hl
        cases hl
        rfl
theorem self_len (p : Pf) (L : List Pr) : (selfL p L).length = if (getQ p L).isSome = true then 1 else 0 := by
  unfold selfL
  cases getQ p L <;> rfl
theorem child_no {p : Pf} (h : ¬ (pchild p 1).2 = true) : psane p = false ∨ wid p.a.v6 ≤ p.n := by
  cases hp : psane p
  · exact .inl rfl
  · right
    rcases Int.lt_or_le p.n (wid p.a.v6) with e | e
    · rw [child_eq p 1 hp e] at h
      exact absurd rfl h
    · exact e
theorem parts_eq {L : List Pr} (h : Srt L) (p : Pf) : selfL p L ++ kidsL p L = L.filter fun x => pcov p x.p := by
  have hself : Srt (selfL p L) := by
    refine ⟨fun x hx => h.1 x ((mem_self h x).1 hx).1, ?_⟩
    unfold selfL
    cases getQ p L <;> simp
  by_cases hc : (pchild p 1).2 = true
  · obtain ⟨hp, hlt, -⟩ := child_ok 1 hc
    have hk : kidsL p L = (L.filter fun x => pcov (pchild p 0).1 x.p) ++ (L.filter fun x => pcov (pchild p 1).1 x.p) := if_pos hc
    rw [hk]
    have sp : ∀ x ∈ L, (pcov p x.p = true ↔ x.p = p ∨ pcov (pchild p 0).1 x.p = true ∨ pcov (pchild p 1).1 x.p = true) := fun x hx => cov_split hp hlt (h.1 x hx)
    have pk : ∀ d : Int, (d = 0 ∨ d = 1) → ∀ y : Pf, pcov (pchild p d).1 y = true → pcmp p y < 0 := by
      intro d hd y hy
      have hce := child_eq p d hp hlt
      have hcv : pcov p y = true := by
        have hy' := (pcov_iff _ _).1 hy
        rcases hd with rfl | rfl
        · exact (cov_split hp hlt hy'.2.1).2 (.inr (.inl hy))
        · exact (cov_split hp hlt hy'.2.1).2 (.inr (.inr hy))
      have h1 := cov_cmp hcv
      have h2 := (pcov_iff _ _).1 hy
      rw [hce] at h2
      have h3 := h2.2.2.1
      simp only at h3
      have h4 : pcmp p y ≠ 0 := fun e => by
        have := (pcmp_eq hp h2.2.1).1 e
        rw [← this] at h3
        omega
      omega
    refine srt_ext ⟨fun x hx => ?_, ?_⟩ (filter_srt h _) (fun x => ?_)
    · rcases List.mem_append.1 hx with hx | hx
      · exact hself.1 x hx
      · rcases List.mem_append.1 hx with hx | hx
        · exact h.1 x (List.mem_filter.1 hx).1
        · exact h.1 x (List.mem_filter.1 hx).1
    · rw [List.pairwise_append, List.pairwise_append]
      refine ⟨hself.2, ⟨(filter_srt h _).2, (filter_srt h _).2, fun x hx y hy => ?_⟩, fun x hx y hy => ?_⟩
      · exact child_lt hp hlt (List.mem_filter.1 hx).2 (List.mem_filter.1 hy).2
      · rw [((mem_self h x).1 hx).2]
        rcases List.mem_append.1 hy with hy | hy
        · exact pk 0 (.inl rfl) _ (List.mem_filter.1 hy).2
        · exact pk 1 (.inr rfl) _ (List.mem_filter.1 hy).2
    · rw [List.mem_append, List.mem_append, List.mem_filter, List.mem_filter, List.mem_filter, mem_self h]
      constructor
      · rintro (⟨h1, h2⟩ | ⟨h1, h2⟩ | ⟨h1, h2⟩)
        · exact ⟨h1, (sp x h1).2 (.inl h2)⟩
        · exact ⟨h1, (sp x h1).2 (.inr (.inl h2))⟩
        · exact ⟨h1, (sp x h1).2 (.inr (.inr h2))⟩
      · rintro ⟨h1, h2⟩
        rcases (sp x h1).1 h2 with e | e | e
        · exact .inl ⟨h1, e⟩
        · exact .inr (.inl ⟨h1, e⟩)
        · exact .inr (.inr ⟨h1, e⟩)
  · have hk : kidsL p L = [] := if_neg hc
    rw [hk, List.append_nil]
    refine srt_ext hself (filter_srt h _) (fun x => ?_)
    rw [mem_self h, List.mem_filter]
    refine and_congr_right fun hx => ?_
    constructor
    · rintro rfl
      exact cov_refl _ (h.1 x hx)
    · intro hcv
      obtain ⟨k1, k2, k3, k4, k5⟩ := (pcov_iff _ _).1 hcv
      rcases child_no hc with e | e
      · rw [k1] at e
        cases e
      · have hb := (psane_bd k2).2
        have hn : p.n = x.p.n := by rw [← k4] at hb; omega
        exact (sane_ext k1 k2 hn k4 (fun j hj => (k5 j hj).symm)).symm
theorem ins_iff {L : List Pr} (h : Srt L) (p : Pf) : (L.any fun x => pins p x.p) = decide ((selfL p L).length < (L.filter fun x => pcov p x.p).length) := by
  rw [Bool.eq_iff_iff, List.any_eq_true, decide_eq_true_iff]
  have hpe := parts_eq h p
  have key : ∀ x ∈ L, (pins p x.p = true ↔ pcov p x.p = true ∧ x.p ≠ p) := by
    intro x hx
    constructor
    · intro hi
      have hcv : pcov p x.p = true := by
        unfold pins at hi
        simp only [Bool.and_eq_true] at hi
        first | exact hi.1 | exact hi.2
      refine ⟨hcv, fun e => ?_⟩
      rw [e, ins_self] at hi
      cases hi
    · rintro ⟨h1, h2⟩
      rw [ins_eq h1]
      cases he : pfEq p x.p
      · rfl
      · exact absurd ((pfEq_iff _ _).1 he).symm h2
  constructor
  · rintro ⟨x, hx, hi⟩
    obtain ⟨k1, k2⟩ := (key x hx).1 hi
    have hm : x ∈ L.filter fun x => pcov p x.p := List.mem_filter.2 ⟨hx, k1⟩
    rw [← hpe, List.mem_append] at hm
    rcases hm with hm | hm
    · exact absurd ((mem_self h x).1 hm).2 k2
    · have := List.length_pos_of_mem hm
      rw [← hpe, List.length_append]
      omega
  · intro hl
    rw [← hpe, List.length_append] at hl
    have hpos : 0 < (kidsL p L).length := by omega
    obtain ⟨x, hx⟩ := List.exists_mem_of_length_pos hpos
    have hm : x ∈ L.filter fun x => pcov p x.p := by rw [← hpe]; exact List.mem_append_right _ hx
    obtain ⟨m1, m2⟩ := List.mem_filter.1 hm
    refine ⟨x, m1, (key x m1).2 ⟨m2, fun e => ?_⟩⟩
    -- x is itself and among the kids: twice in a list in order
    have hs := filter_srt h (fun x => pcov p x.p)
    rw [← hpe] at hs
    have := (List.pairwise_append.1 hs.2).2.2 x ((mem_self h x).2 ⟨m1, e⟩) x hx
    rw [pcmp_self] at this
    omega

end Go.Proofs.Ythdnpilkkegniaa
