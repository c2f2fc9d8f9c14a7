/-
  What slices.Grow and slices.Concat return as package wire calls them; Put and PutRoute. Condition: the bytes lie where the argument says, and are not more than half a million.
-/
import Derived.Test.YtibhabglmkgaaaaVf
import Derived.Lib.AppendZerosOnto
import Derived.LoopN
namespace Go.Proofs.Ytibhabglmkgaaaa
open Go.RowKit

theorem grow_run (W : World) (k : Nat) (ty : TypeId) (h0 : 0 < k) (h1 : k ≤ 1000000) :
    ∃ cap W', (Builtin.append_ #[22, 3] ty #[.slice none 0 0, .int .i64 (k : Int)]).run Try.prog W = .ok (.slice (some ⟨W.heap.size, 0, none⟩) k cap) W' ∧
      W'.ownsRow W.heap.size 5 1 (.slice (some ⟨W.heap.size, 0, none⟩) 0 cap) 0 (bv []) ∧ Below W.heap.size W W' := by
  obtain ⟨i0, hi0, hz0, hz1, hz2⟩ := info_parts info_u8
  have hnx : Builtin.nextslicecap (0 + k) 0 ≤ 281474976710656 := by
    unfold Builtin.nextslicecap
    split
    · omega
    · split <;> omega
  have hr := Lib.run_append_grow_zeros (P := Try.prog) W 22 3 ty 5 i0 (.int .u8 0) .i64 .i64 Try.underlying22 Try.underlying3 hi0 hz0 none 0 0 [] (run_firstCells_none W.drew _ _ _ _) k h0 (by omega) (by omega) (by omega) (by rw [hz2]; omega) (by rw [hz2]; omega)
  have hge := grownCap_ge W (0 + k) 0 5
  have hle := grownCap_le_maxLen W (0 + k) 0 5 (by simp only [maxLen]; omega)
  rw [Nat.zero_add] at hr hge hle
  refine ⟨_, _, hr, ?_, ?_⟩
  · refine World.ownsRow_made W.drew _ _ (Nat.le_refl _) hle ?_
    simp [size_zeroCells, Value.cells]
    omega
  · exact ((Below.refl _ W).drew).alloc (Nat.le_refl _) _

theorem wpList_grow {ops : Array Oper} {o : Oper} {a : Act} {w : World} {Q : Exit → Act → World → Prop} {rest : List Oper} (hgd : o.guard = none) (s x : Operand) (ho : o.op = .call { callee := .builtin .append, args := #[s, x], argTypes := #[22, 3] }) (k : Nat) (h0 : 0 < k) (h1 : k ≤ 1000000) (hs : a.eval s = .slice none 0 0) (hx : a.eval x = .int .i64 (k : Int))
    (h : ∀ cap w', w'.ownsRow w.heap.size 5 1 (.slice (some ⟨w.heap.size, 0, none⟩) 0 cap) 0 (bv []) → Below w.heap.size w w' → wpList Try.prog ops Q rest (a.put o.dst (.slice (some ⟨w.heap.size, 0, none⟩) k cap)) w') : wpList Try.prog ops Q (o :: rest) a w :=
  wpList_plain hgd fun _ hK => by
    obtain ⟨cap, W', hr, ho2, hb⟩ := grow_run w k o.type h0 h1
    unfold Oper.wp execOp
    simp only [ho, resolve, invoke, builtin, Sem.run_bind, Sem.run_pure, Result.andThen_ok, List.map_toArray, List.map_cons, List.map_nil, hs, hx, hr]
    exact hK _ _ (h cap W' ho2 hb)

set_option maxHeartbeats 1000000 in
theorem grow_any (n : Int) (h0 : 0 ≤ n) (h1 : n ≤ 1000000) (w : World) : Calls Try.prog 48 #[.slice none 0 0, .int .i64 n] w (RowPost w []) := by
  obtain ⟨k, rfl⟩ := Int.eq_ofNat_of_zero_le h0
  by_cases hk : k = 0
  · subst hk
    go_enter Try.func48, Try.ntmps48
    go_wp2
    go_ret
    exact ⟨_, rfl, World.ownsRow_nil _ _ _ _, Below.refl _ _⟩
  · have t1 : decide ((k : Int) < 0) = false := by simp
    have t2 : decide (0 < (k : Int)) = true := by simp; omega
    have t3 : decide (0 < k) = true := by simp; omega
    have hk0 : 0 < k := by omega
    have hk1 : k ≤ 1000000 := by omega
    clear hk
    go_enter Try.func48, Try.ntmps48
    go_wp2_with (
      at_builtin
      refine wpList_grow rfl (.tmp 20) (.tmp 21) rfl k hk0 hk1 (by rfl) (by rfl) ?_
      intro cap w1 ho hb
      have Ho := Lib.hid ho
      clear ho
      )
    go_ret
    exact ⟨_, rfl, Ho.out, hb⟩

/-- Two lists of bytes in a list. -/
def Pair2 (w : World) (g : Nat) (v1 v2 : Value) : Prop := w.cell? ⟨g, 0, none⟩ = some v1 ∧ w.cell? ⟨g, 1, none⟩ = some v2 ∧ g < w.heap.size

set_option maxHeartbeats 2000000 in
theorem concat_any (g : Nat) (A B : Option Addr) (c d : Nat) (l m : List Int) (w : World) (h : w.cell? ⟨g, 0, none⟩ = some (.slice A l.length c)) (h' : w.cell? ⟨g, 1, none⟩ = some (.slice B m.length d)) (hg : g < w.heap.size) (hl : Rd w A c l) (hm : Rd w B d m) (hb : l.length + m.length ≤ 500000) :
    Calls Try.prog 35 #[.slice (some ⟨g, 0, none⟩) 2 2] w (RowPost w (l ++ m)) := by
  have t1 : decide ((l.length : Int) < 0) = false := by simp
  have t2 : decide ((l.length : Int) + (m.length : Int) < 0) = false := by simp; omega
  have b1 : (0 : Int) ≤ (l.length : Int) := by omega
  have b2 : (0 : Int) ≤ (m.length : Int) := by omega
  have b3 : (l.length : Int) + (m.length : Int) ≤ 500000 := by omega
  have HL := Lib.hid hl
  have HM := Lib.hid hm
  clear hl hm
  go_enter Try.func35, Try.ntmps35
  go_wp2_with fail
  refine wp_loop_rounds 3 ?_
  rw [rounds_succ]
  go_wp2_with fail
  rw [rounds_succ]
  go_wp2_with fail
  rw [rounds_succ]
  go_wp2_with fail
  refine (grow_any ((l.length : Int) + (m.length : Int)) (by omega) (by omega) _).mono ?_
  rintro e w1 ⟨v1, rfl, ho1, hb1⟩
  have k0 := (hb1.cell (p := ⟨g, 0, none⟩) hg).trans h
  have k1 := (hb1.cell (p := ⟨g, 1, none⟩) hg).trans h'
  have H1 := Lib.hid ho1
  have z1 := hb1.size
  have hg1 : g < w1.heap.size := by omega
  clear ho1 h h'
  go_wp2_with fail
  refine wp_loop_rounds 3 ?_
  rw [rounds_succ]
  go_wp2_with (
    at_builtin
    refine wpList_bytes rfl (.tmp 31) (.tmp 32) rfl w.heap.size _ 0 [] (by rfl) H1.out _ _ c l (by rfl) rfl (HL.out.keep hb1) (by omega) z1 ?_
    intro v2 w2 ho2 hb2
    have H2 := Lib.hid ho2
    have k2 := (hb2.cell (p := ⟨g, 1, none⟩) hg).trans k1
    have z2 := Nat.le_trans z1 hb2.size
    clear ho2 k0 k1
    )
  rw [rounds_succ]
  go_wp2_with (
    at_builtin
    refine wpList_bytes rfl (.tmp 31) (.tmp 32) rfl w.heap.size _ _ _ (by rfl) H2.out _ _ d m (by rfl) rfl (HM.out.keep (hb1.trans hb2)) (by simp; omega) z2 ?_
    intro v3 w3 ho3 hb3
    have H3 := Lib.hid ho3
    clear ho3
    )
  rw [rounds_succ]
  go_wp2
  go_ret
  exact ⟨_, rfl, own_fit (by simpa using H3.out), (hb1.trans hb2).trans hb3⟩

end Go.Proofs.Ytibhabglmkgaaaa
