/-
  What getDigits of package wire returns. Condition: the bytes lie where the argument says.
-/
import Derived.Test.YtpigdjlanabacaaVb
import Derived.Laws.CopyOwn
namespace Go.Proofs.Ytpigdjlanabacaa
open Go.RowKit

theorem made_u8 (n : Nat) : madeCells #[Value.int .u8 0] n = (bv (List.replicate n 0)).toArray := by
  apply Array.ext'
  rw [toList_madeCells_one]
  simp [bv]
/-- Bytes laid over zeros: byte j. -/
theorem firstK_at (l : List Int) (k n j : Nat) (hk : k ≤ n) (hl : k ≤ l.length) (hj : j < n) : (bv (l.take k ++ List.replicate (n - k) 0))[j]? = some (.int .u8 (firstK l k j)) := by
  unfold bv firstK
  rw [List.getElem?_map]
  by_cases h : j < k
  · rw [List.getElem?_append_left (by rw [List.length_take]; omega), List.getElem?_take_of_lt h, if_pos h]
    unfold at0
    rw [List.getD_eq_getElem?_getD, List.getElem?_eq_getElem (by omega)]
    rfl
  · rw [List.getElem?_append_right (by rw [List.length_take]; omega), if_neg h, List.length_take, List.getElem?_replicate, if_pos (by omega)]
    rfl
theorem firstK_bd {l : List Int} (h : ∀ x ∈ l, 0 ≤ x ∧ x < 256) (k j : Nat) : 0 ≤ firstK l k j ∧ firstK l k j < 256 := by
  unfold firstK
  split
  · exact at0_bd h j
  · omega

theorem heap_new_at {w : World} {o : Obj} {b : Nat} (h : b = w.heap.size) : (w.alloc o).heap[b]? = some o := by subst h; exact heap_alloc_new _ _
/-- The first k bytes copied over N zeros. -/
theorem copy_run (W : World) (g N k : Nat) (A : Option Addr) (c : Nat) (l : List Int) (ty : TypeId) (hg : W.heap[g]? = some (.cells (bv (List.replicate N 0)).toArray 5 (0, 0))) (h : Rd W A c l) (hk : k ≤ l.length) (hkN : k ≤ N) :
    ∃ W2, (Builtin.copy_ #[55, 55] ty #[.slice (some ⟨g, 0, none⟩) N N, .slice A k c]).run Try.prog W = .ok (goInt k) W2 ∧ W2.heap[g]? = some (.cells (bv (l.take k ++ List.replicate (N - k) 0)).toArray 5 (0, 0)) ∧ Below g W W2 := by
  have hs : (Try.prog.info? 5).map (·.size) = some 1 := by kernel_rfl
  have hl : (bv (l.take k)).length = k := by rw [bv_len, List.length_take]; omega
  by_cases h0 : k = 0
  · subst h0
    refine ⟨W, run_copy_none W _ _ ty 5 _ A N N 0 c Try.underlying55 hs (Nat.zero_min _), ?_, Below.refl _ _⟩
    simpa using hg
  · have h' := h.first k hk
    obtain ⟨g', off, rfl, _, _⟩ := h'.at_ (by rw [List.length_take]; omega)
    have hr := run_copy_row (P := Try.prog) W 55 55 ty 5 g 0 N N ⟨g', off, none⟩ k c _ 5 (bv (l.take k)) Try.underlying55 hs hg (by rw [hl]; exact (Nat.min_eq_left hkN).symm) (h'.news rfl) (by simp [bv_len]; omega) (bv_one _)
    rw [hl] at hr
    refine ⟨_, hr, ?_, ?_⟩
    · rw [setRow_heap W g _ _ _ _ hg]
      simp [bv, List.drop_replicate]
    · exact ⟨rfl, rfl, rfl, by simp [World.setRow], fun j hj => setRow_other W g j _ (by omega)⟩

end Go.Proofs.Ytpigdjlanabacaa
