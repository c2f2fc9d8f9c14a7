/-
  What becomes of the others when one number is touched or dropped: plain facts. No condition.
-/
import Derived.Test.YtkkjdpmkiedbiaaJf
namespace Go.Proofs.Ytkkjdpmkiedbiaa
open Go.RowKit
set_option maxRecDepth 100000

theorem wout_succ (l : List Nat) (i : Int) (j : Nat) (h : j < l.length) : wout (l.take (j + 1)) i = if (l[j] : Int) = i then wout (l.take j) i else wout (l.take j) i ++ [l[j]] := by
  unfold wout
  rw [← List.take_append_getElem h, List.filter_append, List.filter_cons]
  split <;> simp_all
theorem wout_le (l : List Nat) (i : Int) : (wout l i).length ≤ l.length := List.length_filter_le _ _
theorem wout_wout (l : List Nat) (i : Int) : wout (wout l i) i = wout l i := by
  unfold wout
  rw [List.filter_filter]
  simp
theorem act_no {s : Rc} {a : Ac10} (h : s.acts a = false) : s.act a = s := by
  unfold Rc.acts at h
  unfold Rc.act
  split
  · rename_i h1
    rw [if_pos h1] at h
    exact drop_no h
  · rename_i h1
    rw [if_neg h1] at h
    exact touch_no h
theorem act_n (s : Rc) (a : Ac10) : (s.act a).n = s.n := by
  unfold Rc.act Rc.drop Rc.touch
  split
  · rfl
  · split <;> rfl
theorem act_first {s : Rc} {a : Ac10} (h : s.acts a = true) (ho : a.out = false) : (s.act a).L = a.i.toNat :: wout s.L a.i ∧ 0 ≤ a.i := by
  unfold Rc.acts at h
  rw [if_neg (by simp [ho])] at h
  unfold Rc.act Rc.touch
  rw [if_neg (by simp [ho]), if_pos h]
  exact ⟨rfl, (may_bd h).1⟩
theorem act_wout (s : Rc) (a : Ac10) : wout (s.act a).L a.i = wout s.L a.i := by
  cases h : s.acts a
  · rw [act_no h]
  · cases ho : a.out
    · obtain ⟨h1, h2⟩ := act_first h ho
      rw [h1]
      have e : wout (a.i.toNat :: wout s.L a.i) a.i = wout (wout s.L a.i) a.i := by
        unfold wout
        rw [List.filter_cons]
        rw [if_neg (by simp; omega)]
      rw [e, wout_wout]
    · unfold Rc.act
      rw [if_pos ho]
      exact wout_wout _ _
/-- How many times the number itself stands there. -/
theorem act_cnt {s : Rc} {R : Nat → Lnk} (hk : s.Ok R) (a : Ac10) : (s.act a).L.length = (wout s.L a.i).length + (if a.out = false ∧ s.acts a = true then 1 else 0) := by
  cases h : s.acts a
  · rw [act_no h, wout_self]
    · simp
    · rintro ⟨h0, h1⟩
      unfold Rc.acts at h
      split at h
      · unfold Rc.has at h
        simp [h0, h1] at h
      · have := hk.lt _ h1
        unfold Rc.may at h
        simp [h0] at h
        omega
  · cases ho : a.out
    · rw [(act_first h ho).1]
      simp
    · unfold Rc.act
      rw [if_pos ho]
      simp [Rc.drop]
theorem Rc.Ok.len2 {s : Rc} {R : Nat → Lnk} (h : s.Ok R) : s.L.length ≤ s.n - 1 := by
  have hsub : s.L ⊆ List.range (s.n - 1) := fun i hi => by
    have := h.lt i hi
    simp
    omega
  have : s.L.length ≤ (List.range (s.n - 1)).length := List.Nodup.length_le_of_subset h.once hsub
  simpa using this
/-- At the head of a round of a loop that leaves one number out. -/
def FltRel (W : World) (l : List Nat) (i : Int) (j : Nat) (x : Value) (wr : World) : Prop := ∃ (m : Nat) (A : Option Addr) (c : Nat), j ≤ l.length ∧ m = (wout (l.take j) i).length ∧ x = .slice A m c ∧ wr.ownsRow W.heap.size 3 1 x m (KN.row (wout (l.take j) i)) ∧ Below W.heap.size W wr

end Go.Proofs.Ytkkjdpmkiedbiaa
