/-
  The document's answers for package victim: where, Choose and Rank of kedgeref12. Condition: the entries lie where the argument says.
-/
import Derived.Test.YtmmggalcebepeaaNc
import Derived.Test.YtmmggalcebepeaaRn
namespace Go.Proofs.Ytmmggalcebepeaa
open Go.RowKit
set_option maxRecDepth 100000

theorem own_types12 {w : World} {b1 b2 n1 n2 z1 z2 : Nat} {e1 e2 : TypeId} {v1 v2 : Value} {xs ys : List Value} (h1 : w.ownsRow b1 e1 z1 v1 n1 xs) (h2 : w.ownsRow b2 e2 z2 v2 n2 ys) (hne : e1 ≠ e2) : ∀ b, v1.ownBlock = some b → v2.ownBlock ≠ some b := by
  intro b a1 a2
  obtain ⟨c1, d1⟩ := own_heap h1 a1
  obtain ⟨c2, d2⟩ := own_heap h2 a2
  rw [d1] at d2
  simp only [Option.some.injEq, Obj.cells.injEq] at d2
  exact hne d2.2.1
theorem idx_ren (g off n c k : Nat) (h : k < n) (V : World) : (Instr.indexAt 22 (.slice (some ⟨g, off, none⟩) n c) (.int .i64 (k : Int))).run Try.prog V = .ok (.pointer (some ⟨g, off + k * 2, none⟩)) V := by
  have h0 : (0 : Int) ≤ (k : Int) := by omega
  have h1 : (k : Int) < (n : Int) := by omega
  go_simp
theorem ke_at {w : World} {A : Option Addr} {l : List Ent} (h : KE.Rd w A l) {k : Nat} (hk : k < l.length) : ∃ g off, A = some ⟨g, off, none⟩ ∧ g < w.heap.size ∧ w.cell? ⟨g, off + k * 2, none⟩ = some (.int .i64 (nuL l k)) ∧ w.cell? ⟨g, off + k * 2 + 1, none⟩ = some (.int .i64 (scL l k)) := by
  obtain ⟨g, off, e, hg, hc⟩ := h (by rintro rfl; cases hk)
  refine ⟨g, off, e, hg, ?_, ?_⟩
  · rw [nuL_at l k hk]; exact hc k hk 0 (by decide)
  · rw [scL_at l k hk]; exact hc k hk 1 (by decide)
/-- Where the one lies that has to go; -1: there is none. -/
def whI (pol : Int) (l : List Ent) : Int := if l.length = 0 then -1 else (whr pol l : Int)
theorem ret_int12 {x y : Int} (h : x = y) : Ending.returned (.int .i64 x) = .returned (.int .i64 y) := by rw [h]

set_option maxHeartbeats 2000000 in
theorem where12_any (pol : Int) (A : Option Addr) (c : Nat) (l : List Ent) (w : World) (hr : KE.Rd w A l) (hl : l.length ≤ 100000) :
    Calls Try.prog 15 #[.int .i64 pol, .slice A l.length c] w fun e w' => e = .returned (.int .i64 (whI pol l)) ∧ Below w.heap.size w w' := by
  have HR := Lib.hid hr
  clear hr
  by_cases h0 : l.length = 0
  · have HW : Hid (whI pol l = -1) := Lib.hid (by unfold whI; rw [if_pos h0])
    rw [h0]
    clear h0 hl
    go_enter Try.func15, Try.ntmps15
    go_wp2_with fail
    refine wp_loop_rounds 1 ?_
    rw [rounds_succ]
    go_wp2
    go_ret
    exact ⟨ret_int12 HW.out.symm, Below.refl _ _⟩
  · obtain ⟨n, hn⟩ : ∃ n, n = l.length := ⟨_, rfl⟩
    have HW : Hid (whI pol l = (whr pol l : Int) ∧ n = l.length) := Lib.hid ⟨by unfold whI; rw [if_neg h0], hn⟩
    rw [← hn] at h0 hl
    rw [← hn]
    obtain ⟨m, hm⟩ : ∃ m, m = n - 1 := ⟨_, rfl⟩
    have em : (n : Int) - 1 = (m : Int) := by omega
    have wm : IntKind.i64.wrap (m : Int) = (m : Int) := by rw [IntKind.wrap_i64]; omega
    by_cases hp : pol = 1
    · have HP := Lib.hid hp
      have t1 : (pol == 1) = true := by simp [hp]
      have HM := Lib.hid hm
      clear hp hn hm
      go_enter Try.func15, Try.ntmps15
      go_wp2_with fail
      go_loopw [5, 6] (fun x y wr => ∃ (k a : Nat), x = .int .i64 a ∧ y = .int .i64 ((k : Int) - 1) ∧ k ≤ n ∧ a < n ∧ lgt l k a = whr 1 l ∧ Below w.heap.size w wr) (fun _ y _ => (RowKit.intOf y + 1).toNat)
      case atStart => exact ⟨n, m, rfl, by rw [← em], Nat.le_refl _, by have := HM.out; omega, by unfold whr; rw [if_pos rfl, HM.out, HW.out.2], Below.refl _ _⟩
      case round =>
        obtain ⟨k, a, rfl, rfl, hk, ha, hlg, hB⟩ := hrel
        have HB := Lib.hid hB
        have HLG := Lib.hid hlg
        clear hB hlg
        obtain ⟨W, rfl⟩ : ∃ W, W = wr := ⟨_, rfl⟩
        cases k with
        | zero =>
          have HF : Hid (a = whr pol l) := Lib.hid (by rw [HP.out]; exact HLG.out)
          have g0 : ¬ (0 : Int) ≤ ((0 : Nat) : Int) - 1 := by omega
          go_wp2
          go_ret
          exact ⟨ret_int12 (by rw [HW.out.1, HF.out]), HB.out⟩
        | succ k =>
          have ek : ((k + 1 : Nat) : Int) - 1 = (k : Int) := by omega
          rw [ek]
          have g0 : (0 : Int) ≤ (k : Int) := by omega
          obtain ⟨g, off, rfl, hg, -, ks⟩ := ke_at (HR.out.keep HB.out (Nat.le_refl _)) (k := k) (by rw [← HW.out.2]; omega)
          obtain ⟨g', off', e', -, -, asc⟩ := ke_at (HR.out.keep HB.out (Nat.le_refl _)) (k := a) (by rw [← HW.out.2]; omega)
          cases e'
          have ik := fun V => idx_ren g off n c k (by omega) V
          have ia := fun V => idx_ren g off n c a (by omega) V
          have K1 := fun x : Later W.heap.size W => (x.cell (p := ⟨g, off + k * 2 + 1, none⟩) hg).trans ks
          have A1 := fun x : Later W.heap.size W => (x.cell (p := ⟨g, off + a * 2 + 1, none⟩) hg).trans asc
          have HS : Hid (lgt l k (if scL l k < scL l a then k else a) = whr 1 l) := Lib.hid (by rw [← lgt_succ]; exact HLG.out)
          generalize hx : scL l k = x at *
          generalize hy : scL l a = y at *
          clear ks asc hx hy ek
          by_cases hxy : x < y
          · have HS2 : Hid (lgt l k k = whr 1 l) := Lib.hid (by have h1 := HS.out; rw [if_pos hxy] at h1; exact h1)
            go_wp2_with fail
            refine region_later W.heap.size (by kernel_rfl) (by kernel_rfl) ?_
            repeat (go_big_quiet_step (fail))
            refine wpQuiet_nil ?_
            intro x2
            have b2 := x2.below
            generalize x2.at = w2 at *
            clear x2
            clear K1 A1
            go_wp2
            go_roundw
            case rel => exact ⟨k, k, rfl, by go_num, by omega, by omega, HS2.out, HB.out.trans (b2.mono HB.out.size)⟩
            case measure => simp [RowKit.intOf]
          · have HS2 : Hid (lgt l k a = whr 1 l) := Lib.hid (by have h1 := HS.out; rw [if_neg hxy] at h1; exact h1)
            go_wp2_with fail
            refine region_later W.heap.size (by kernel_rfl) (by kernel_rfl) ?_
            repeat (go_big_quiet_step (fail))
            refine wpQuiet_nil ?_
            intro x2
            have b2 := x2.below
            generalize x2.at = w2 at *
            clear x2
            clear K1 A1
            go_wp2
            go_roundw
            case rel => exact ⟨k, a, rfl, by go_num, by omega, by omega, HS2.out, HB.out.trans (b2.mono HB.out.size)⟩
            case measure => simp [RowKit.intOf]
    · have HF : Hid (m = whr pol l) := Lib.hid (by rw [whr_lru pol hp, ← hn, hm])
      have t1 : (pol == 1) = false := by simp [hp]
      clear hp hn hm
      go_enter Try.func15, Try.ntmps15
      go_wp2_with fail
      refine wp_loop_rounds 1 ?_
      rw [rounds_succ]
      go_wp2
      go_ret
      exact ⟨ret_int12 (by rw [HW.out.1, HF.out]), Below.refl _ _⟩

/-- What Choose tells. -/
def chI (pol : Int) (l : List Ent) : Int := if l.length = 0 then 0 else nuL l (whr pol l)
theorem ret_two12 {x y : Int} {b b' : Bool} (h : x = y) (k : b = b') : Ending.returned (.tuple #[.int .i64 x, .bool b]) = .returned (.tuple #[.int .i64 y, .bool b']) := by rw [h, k]
set_option maxHeartbeats 1000000 in
theorem rchoose12_any (pol : Int) (A : Option Addr) (c : Nat) (l : List Ent) (w : World) (hr : KE.Rd w A l) (hl : l.length ≤ 100000) :
    Calls Try.prog 10 #[.int .i64 pol, .slice A l.length c] w fun e w' => e = .returned (.tuple #[.int .i64 (chI pol l), .bool (decide (0 < l.length))]) ∧ Below w.heap.size w w' := by
  have HR := Lib.hid hr
  have c1 := Lib.hid (where12_any pol A c l w hr hl)
  clear hr
  by_cases h0 : l.length = 0
  · have HC : Hid (chI pol l = 0 ∧ decide (0 < l.length) = false ∧ whI pol l = -1) := Lib.hid ⟨by unfold chI; rw [if_pos h0], by simp [h0], by unfold whI; rw [if_pos h0]⟩
    clear h0 hl
    go_enter Try.func10, Try.ntmps10
    go_wp2_with fail
    refine c1.out.mono ?_
    rintro e w1 ⟨rfl, h1⟩
    rw [HC.out.2.2]
    go_wp2
    refine bodyPost_ret (v := .tuple #[.int .i64 0, .bool false]) (by simp [*, results, Try.results10, go_sem] <;> rfl) rfl ⟨ret_two12 HC.out.1.symm HC.out.2.1.symm, h1⟩
  · obtain ⟨p, hp⟩ : ∃ p, p = whr pol l := ⟨_, rfl⟩
    have hpl : p < l.length := by rw [hp]; exact whr_lt pol l (by omega)
    have HC : Hid (chI pol l = nuL l p ∧ decide (0 < l.length) = true ∧ whI pol l = (p : Int)) := Lib.hid ⟨by unfold chI; rw [if_neg h0, hp], by simp; omega, by unfold whI; rw [if_neg h0, hp]⟩
    obtain ⟨g, off, rfl, hg, kn, -⟩ := ke_at HR.out hpl
    have ik := fun V => idx_ren g off l.length c p hpl V
    have g0 : ¬ (p : Int) < 0 := by omega
    generalize nuL l p = x at *
    clear h0 hl hp hpl
    go_enter Try.func10, Try.ntmps10
    go_wp2_with fail
    refine c1.out.mono ?_
    rintro e w1 ⟨rfl, h1⟩
    rw [HC.out.2.2]
    have kn1 := (h1.cell (p := ⟨g, off + p * 2, none⟩) hg).trans kn
    clear kn
    go_wp2
    refine bodyPost_ret (v := .tuple #[.int .i64 x, .bool true]) (by simp [*, results, Try.results10, go_sem] <;> rfl) rfl ⟨ret_two12 HC.out.1.symm HC.out.2.1.symm, h1⟩

end Go.Proofs.Ytmmggalcebepeaa
