/-
  What New, Has, without, Last, Touch, Drop of the document's answer for layer 10 return. Condition: its numbers lie where the argument says.
-/
import Derived.Test.YtkkjdpmkiedbiaaLjO
import Derived.Deep.RegionHeld3
namespace Go.Proofs.Ytkkjdpmkiedbiaa
open Go.RowKit
set_option maxRecDepth 100000

def hasL (l : List Nat) (i : Int) : Bool := decide (0 ≤ i) && decide (i.toNat ∈ l)
theorem hasL_take {l : List Nat} {i : Int} {k : Nat} (h : k < l.length) : hasL (l.take (k + 1)) i = (hasL (l.take k) i || ((l[k] : Int) == i)) := by
  unfold hasL
  rw [← List.take_append_getElem h, Bool.eq_iff_iff]
  simp only [Bool.and_eq_true, decide_eq_true_eq, List.mem_append, List.mem_singleton, Bool.or_eq_true, beq_iff_eq]
  constructor
  · rintro ⟨h0, h1 | h1⟩
    · exact .inl ⟨h0, h1⟩
    · right; omega
  · rintro (⟨h0, h1⟩ | h1)
    · exact ⟨h0, .inl h1⟩
    · exact ⟨by omega, .inr (by omega)⟩
theorem hasL_mono {l : List Nat} {i : Int} {k : Nat} (h : hasL (l.take k) i = true) : hasL l i = true := by
  unfold hasL at h ⊢
  simp only [Bool.and_eq_true, decide_eq_true_eq] at h ⊢
  exact ⟨h.1, List.mem_of_mem_take h.2⟩
set_option maxHeartbeats 400000 in
theorem rnew10_any (m : Int) (w : World) : Calls Try.prog 10 #[.int .i64 m] w fun e w' => e = .returned (.agg #[.slice none 0 0, .int .i64 (((Rc.new m).n : Int) - 1)]) ∧ Below w.heap.size w w' := by
  have HN : Hid ((((Rc.new m).n : Int) - 1) = max 0 (min m 1024)) := Lib.hid (by simp only [Rc.new]; omega)
  go_enter Try.func10, Try.ntmps10
  go_wp2
  all_goals
    rw [HN.out]
    refine bodyPost_ret (v := .agg #[.slice none 0 0, .int .i64 (max 0 (min m 1024))]) (by simp [*, results, Try.results10, go_sem] <;> omega) rfl ?_
    exact ⟨rfl, by go_grown⟩
set_option maxHeartbeats 1000000 in
theorem rhas10_any (w : World) (A : Option Addr) (c : Nat) (l : List Nat) (m : Int) (hR : KN.Rd w A l) (hl : l.length ≤ 1024) (i : Int) :
    Calls Try.prog 20 #[.agg #[.slice A l.length c, .int .i64 m], .int .i64 i] w fun e w' => e = .returned (.bool (hasL l i)) ∧ Below w.heap.size w w' := by
  have HR := Lib.hid hR
  clear hR
  go_enter Try.func20, Try.ntmps20
  go_wp2_with fail
  generalize hW : w.alloc _ = W
  have hB : Below w.heap.size w W := by subst hW; go_grown
  have hx : W.heap[w.heap.size]? = some (.cells #[.slice A l.length c, .int .i64 m] 28 (0, 0)) := by subst hW; exact hp_new rfl
  have x0 : W.cell? ⟨w.heap.size, 0, none⟩ = some (.slice A l.length c) := by rw [cell_row hx]; rfl
  have HB := Lib.hid hB
  clear hW hB hx
  go_loopw [5] (fun n wr => ∃ k : Nat, k ≤ l.length ∧ n = .int .i64 k ∧ hasL (l.take k) i = false ∧ wr = W) (fun n _ => l.length - (intOf n).toNat)
  case atStart => exact ⟨0, by omega, rfl, by simp [hasL], rfl⟩
  case round =>
    obtain ⟨k, hk, rfl, hh, hw9⟩ := hrel
    subst hw9
    have HH := Lib.hid hh
    clear hh
    by_cases hlt : k < l.length
    · have t1 : decide ((k : Int) < (l.length : Int)) = true := by simp; omega
      have k1 : (k : Int) < (l.length : Int) := by omega
      obtain ⟨g, off, rfl, h3⟩ := rd_at HR.out hlt
      have e0 := (h3 wr HB.out).1
      have HT := Lib.hid (hasL_take (i := i) hlt)
      have HM := Lib.hid (fun h => hasL_mono (l := l) (i := i) (k := k + 1) h)
      generalize l[k] = y at e0 HT
      clear h3
      cases hy : ((y : Int) == i)
      · rw [hy] at HT
        go_wp2
        go_roundw
        case rel => exact ⟨k + 1, by omega, by go_num, by rw [HT.out, HH.out]; rfl, trivial⟩
        case measure => simp [intOf]; omega
      · rw [hy] at HT
        go_wp2
        go_ret
        rw [HM.out (by rw [HT.out]; simp)]
        exact ⟨rfl, HB.out⟩
    · have hkl : k = l.length := by omega
      subst hkl
      have t1 : decide ((l.length : Int) < (l.length : Int)) = false := by simp
      rw [List.take_of_length_le (Nat.le_refl _)] at HH
      go_wp2
      go_ret
      rw [HH.out]
      exact ⟨rfl, HB.out⟩
set_option maxHeartbeats 1000000 in
theorem rwithout_any (w : World) (A : Option Addr) (c : Nat) (l : List Nat) (hR : KN.Rd w A l) (hl : l.length ≤ 1024) (i : Int) :
    Calls Try.prog 23 #[.slice A l.length c, .int .i64 i] w (NatsPost w (wout l i)) := by
  have HR := Lib.hid hR
  clear hR
  go_enter Try.func23, Try.ntmps23
  go_wp2_with fail
  go_loopw [5, 6] (fun x n wr => ∃ j : Nat, n = .int .i64 j ∧ FltRel w l i j x wr) (fun _ n _ => l.length - (intOf n).toNat)
  case atStart => exact ⟨0, rfl, 0, none, 0, Nat.zero_le _, rfl, rfl, World.ownsRow_nil _ _ _ _, Below.refl _ _⟩
  case round =>
    obtain ⟨j, rfl, m, Ax, cx, hj, hm, rfl, hox, hbx⟩ := hrel
    have HO := Lib.hid hox
    have HB := Lib.hid hbx
    have HM := Lib.hid hm
    have hm9 : m ≤ j := by rw [hm]; exact Nat.le_trans (wout_le _ _) (by simp; omega)
    have z6 := hbx.size
    clear hox hm
    by_cases hlt : j < l.length
    · have t3 : decide ((j : Int) < (l.length : Int)) = true := by simp; omega
      obtain ⟨g3, off3, rfl, h3⟩ := rd_at HR.out hlt
      have HT := Lib.hid (wout_succ l i j hlt)
      have e0 := (h3 wr hbx).1
      generalize l[j] = y at e0 HT
      have k3 : (j : Int) < (l.length : Int) := by omega
      clear h3 hbx
      by_cases hy : (y : Int) = i
      · have t4 : ((y : Int) == i) = true := by simp [hy]
        rw [if_pos hy] at HT
        clear hy
        go_wp2
        go_roundw
        case rel => exact ⟨j + 1, by go_num, m, Ax, cx, by omega, by rw [HT.out]; exact HM.out, rfl, by rw [HT.out]; exact HO.out, HB.out⟩
        case measure => simp [intOf]; omega
      · have t4 : ((y : Int) == i) = false := by simp [hy]
        rw [if_neg hy] at HT
        clear hy
        go_wp2_with (
          at_builtin
          refine Kd.wpList_one KN_ty rfl (.tmp 19) (.tmp 24) rfl w.heap.size _ m _ HM.out (by rfl) (HO.out.alloc _) wr.heap.size y (by rfl) (hp_new rfl) (by omega) (by simp; omega) ?_
          intro A' c' w7 hG
          have HG := Lib.hid hG
          clear hG
          )
        go_roundw
        case rel => exact ⟨j + 1, by go_num, m + 1, A', c', by omega, by rw [HT.out]; simp [HM.out], rfl, by rw [HT.out]; exact HG.out.1, (HB.out.alloc z6 _).trans HG.out.2.2.2⟩
        case measure => simp [intOf]; omega
    · have hjl : j = l.length := by omega
      subst hjl
      have t3 : decide ((l.length : Int) < (l.length : Int)) = false := by simp
      rw [show l.take l.length = l from List.take_of_length_le (Nat.le_refl _)] at HO HM
      clear hbx
      go_wp2
      go_ret
      have hm := HM.out
      subst hm
      exact ⟨Ax, cx, rfl, HO.out, HB.out⟩
set_option maxHeartbeats 1000000 in
theorem rlast10_any (w : World) (A : Option Addr) (c : Nat) (s : Rc) (m : Int) (hR : KN.Rd w A s.L) (hl : s.L.length ≤ 1024) :
    Calls Try.prog 15 #[.agg #[.slice A s.L.length c, .int .i64 m]] w fun e w' => e = .returned (.tuple #[.int .i64 s.last, .bool s.is]) ∧ Below w.heap.size w w' := by
  by_cases h0 : s.L = []
  · have HE : Hid (s.last = 0 ∧ s.is = false) := Lib.hid (by unfold Rc.last Rc.is; rw [h0]; exact ⟨rfl, rfl⟩)
    have e1 : s.L.length = 0 := by rw [h0]; rfl
    rw [e1]
    clear hR hl e1 h0
    go_enter Try.func15, Try.ntmps15
    go_wp2
    go_ret2
    rw [HE.out.1, HE.out.2]
    exact ⟨rfl, by go_grown⟩
  · obtain ⟨n, hn⟩ : ∃ n, s.L.length = n + 1 := ⟨s.L.length - 1, by have := List.length_pos_iff.2 h0; omega⟩
    obtain ⟨g, off, rfl, h3⟩ := rd_at hR (k := n) (by omega)
    have HE : Hid (s.last = (s.L[n] : Nat) ∧ s.is = true) := Lib.hid (by
      unfold Rc.last Rc.is
      refine ⟨?_, by cases h9 : s.L with | nil => exact absurd h9 h0 | cons => rfl⟩
      rw [List.getLastD_eq_getLast?, List.getLast?_eq_some_getLast h0, List.getLast_eq_getElem]
      simp [hn])
    generalize s.L[n] = y at h3 HE
    obtain ⟨e0, hg⟩ := h3 w (Below.refl _ _)
    have hn9 : n ≤ 1023 := by omega
    rw [hn]
    have t1 : ((n : Int) + 1 == 0) = false := by simp; omega
    have k1 : (n : Int) < (n : Int) + 1 := by omega
    clear h3 hR h0 hn hl
    go_enter Try.func15, Try.ntmps15
    go_wp2
    go_ret2
    rw [HE.out.1, HE.out.2]
    exact ⟨rfl, by go_grown⟩

end Go.Proofs.Ytkkjdpmkiedbiaa
