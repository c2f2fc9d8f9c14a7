/-
  What getDigits of package wire returns. Condition: the bytes lie where the argument says.
-/
import Derived.Test.YtibhabglmkgaaaaVb
import Derived.Laws.CopyOwn
namespace Go.Proofs.Ytibhabglmkgaaaa
open Go.RowKit

theorem made_u8 (n : Nat) : madeCells #[Value.int .u8 0] n = (bv (List.replicate n 0)).toArray := by
  apply Array.ext'
  rw [toList_madeCells_one]
  simp [bv]
/-- Bytes laid over zeros: byte j. -/
theorem firstK_at (l : List Int) (k n j : Nat) (hk : k ≤ n) (hl : k ≤ l.length) (hj : j < n) : (bv (l.take k ++ List.replicate (n - k) 0))[j]? = some (.int .u8 (firstK l k j)) := by
  unfold bv firstK
  rw [List.getElem?_map]
  by_cases h : j < k
  · rw [List.getElem?_append_left (by rw [List.length_take]; omega), List.getElem?_take_of_lt h, if_pos h]
    unfold at0
    rw [List.getD_eq_getElem?_getD, List.getElem?_eq_getElem (by omega)]
    rfl
  · rw [List.getElem?_append_right (by rw [List.length_take]; omega), if_neg h, List.length_take, List.getElem?_replicate, if_pos (by omega)]
    rfl
theorem firstK_bd {l : List Int} (h : ∀ x ∈ l, 0 ≤ x ∧ x < 256) (k j : Nat) : 0 ≤ firstK l k j ∧ firstK l k j < 256 := by
  unfold firstK
  split
  · exact at0_bd h j
  · omega

theorem heap_new_at {w : World} {o : Obj} {b : Nat} (h : b = w.heap.size) : (w.alloc o).heap[b]? = some o := by subst h; exact heap_alloc_new _ _
/-- The first k bytes copied over N zeros. -/
theorem copy_run (W : World) (g N k : Nat) (A : Option Addr) (c : Nat) (l : List Int) (ty : TypeId) (hg : W.heap[g]? = some (.cells (bv (List.replicate N 0)).toArray 5 (0, 0))) (h : Rd W A c l) (hk : k ≤ l.length) (hkN : k ≤ N) :
    ∃ W2, (Builtin.copy_ #[22, 22] ty #[.slice (some ⟨g, 0, none⟩) N N, .slice A k c]).run Try.prog W = .ok (goInt k) W2 ∧ W2.heap[g]? = some (.cells (bv (l.take k ++ List.replicate (N - k) 0)).toArray 5 (0, 0)) ∧ Below g W W2 := by
  have hs : (Try.prog.info? 5).map (·.size) = some 1 := by kernel_rfl
  have hl : (bv (l.take k)).length = k := by rw [bv_len, List.length_take]; omega
  by_cases h0 : k = 0
  · subst h0
    refine ⟨W, run_copy_none W _ _ ty 5 _ A N N 0 c Try.underlying22 hs (Nat.zero_min _), ?_, Below.refl _ _⟩
    simpa using hg
  · have h' := h.first k hk
    obtain ⟨g', off, rfl, _, _⟩ := h'.at_ (by rw [List.length_take]; omega)
    have hr := run_copy_row (P := Try.prog) W 22 22 ty 5 g 0 N N ⟨g', off, none⟩ k c _ 5 (bv (l.take k)) Try.underlying22 hs hg (by rw [hl]; exact (Nat.min_eq_left hkN).symm) (h'.news rfl) (by simp [bv_len]; omega) (bv_one _)
    rw [hl] at hr
    refine ⟨_, hr, ?_, ?_⟩
    · rw [setRow_heap W g _ _ _ _ hg]
      simp [bv, List.drop_replicate]
    · exact ⟨rfl, rfl, rfl, by simp [World.setRow], fun j hj => setRow_other W g j _ (by omega)⟩

set_option maxHeartbeats 1000000 in
theorem getDigits_short (v : Bool) (n : Int) (h0 : 0 ≤ n) (h1 : n ≤ wid v) (A : Option Addr) (c : Nat) (l : List Int) (w : World) (hk : l.length < need n) :
    Calls Try.prog 29 #[.agg #[.bool v, .int .i64 n], .slice A l.length c] w fun e w' => e = .returned (.tuple #[.agg #[.int .u64 0, .int .u64 0, .bool false, .int .i64 0], .int .i64 0, .int .i64 6]) ∧ Below w.heap.size w w' := by
  have hw := wid_bd v
  have t1 : decide (l.length < need n) = true := by simp [hk]
  go_enter Try.func29, Try.ntmps29
  go_wp2_with fail
  refine (need_any n h0 (by omega) _).mono ?_
  rintro e w1 ⟨rfl, rfl⟩
  go_wp2
  refine bodyPost_ret (v := .tuple #[.agg #[.int .u64 0, .int .u64 0, .bool false, .int .i64 0], .int .i64 0, .int .i64 6]) (by simp [*, results, Try.results29, go_sem] <;> rfl) rfl ⟨rfl, ?_⟩
  go_grown

set_option maxHeartbeats 1000000 in
theorem getDigits_long (v : Bool) (n : Int) (h0 : 0 ≤ n) (h1 : n ≤ wid v) (A : Option Addr) (c : Nat) (l : List Int) (w : World) (h : Rd w A c l) (hk : need n ≤ l.length) (b : Bool) (hb : psane (digP v n l) = b) :
    Calls Try.prog 29 #[.agg #[.bool v, .int .i64 n], .slice A l.length c] w fun e w' => e = .returned (if b = true then .tuple #[.agg #[.int .u64 (u (digP v n l).a.hi), .int .u64 (u (digP v n l).a.lo), .bool (digP v n l).a.v6, .int .i64 (digP v n l).n], .int .i64 (need n), .int .i64 0] else .tuple #[.agg #[.int .u64 0, .int .u64 0, .bool false, .int .i64 0], .int .i64 0, .int .i64 1]) ∧ Below w.heap.size w w' := by
  have hw := wid_bd v
  have hq := nb_wid v
  have hnb := nb_le v
  have hle := (need_le v n h0 h1).1
  have t1 : decide (l.length < need n) = false := by simp; omega
  have hc := h.1
  have hcm := h.2.1
  have hmk := fun W : World => run_make_row' (P := Try.prog) 22 5 (.int .u8 0) 1 Try.underlying22 info_u8 rfl .i64 .i64 (nb v) (by omega) (by omega) W
  have hsl := fun W : World => slice_to A l.length c (need n) hk hc W
  have HR := Lib.hid h
  clear h
  go_enter Try.func29, Try.ntmps29
  go_wp2_with fail
  refine (need_any n h0 (by omega) _).mono ?_
  rintro e w1 ⟨rfl, rfl⟩
  go_wp2_with fail
  refine (width_any v _).mono ?_
  rintro e w2 ⟨rfl, rfl⟩
  go_upto_region 5 with fail
  generalize hW : World.alloc _ _ = W
  have hz : w.heap.size ≤ W.heap.size := by subst hW; go_size
  have hB : Below w.heap.size w W := by subst hW; go_grown
  have hrow : W.heap[w.heap.size + 1 + 1]? = some (.cells (bv (List.replicate (nb v) 0)).toArray 5 (0, 0)) := by
    subst hW
    rw [← made_u8]
    exact heap_new_at (by simp)
  obtain ⟨pa, pb, pc, pd, pz⟩ := cells2 (W := W) (b := w.heap.size) (Below.refl _ W) (by subst hW; go_size) (by subst hW; go_simp <;> rfl) (by subst hW; go_simp <;> rfl) (by subst hW; go_simp <;> rfl) (by subst hW; go_simp <;> rfl)
  obtain ⟨qa, qb, qc, qg, qd, qe, qf, qh, qz⟩ := cells4 (W := W) (b := w.heap.size + 1) (Below.refl _ W) (by subst hW; go_size) (by subst hW; go_simp <;> rfl) (by subst hW; go_simp <;> rfl) (by subst hW; go_simp <;> rfl) (by subst hW; go_simp <;> rfl) (by subst hW; go_simp <;> rfl) (by subst hW; go_simp <;> rfl) (by subst hW; go_simp <;> rfl) (by subst hW; go_simp <;> rfl)
  clear hW hmk
  obtain ⟨W2, hcp, hrow2, hb2⟩ := copy_run W (w.heap.size + 1 + 1) (nb v) (need n) A c l 3 hrow (HR.out.keep hB) hk hle
  have hz2 := hb2.size
  have hzW : w.heap.size + 1 + 1 < W.heap.size := (Array.getElem?_eq_some_iff.1 hrow).1
  obtain ⟨p'a, p'b, p'c, p'd, p'z⟩ := cut2 (b := w.heap.size) hb2 (by omega) (by omega) pa pb pc pd
  obtain ⟨q'a, q'b, q'c, q'g, q'd, q'e, q'f, q'h, q'z⟩ := cut4 (b := w.heap.size + 1) hb2 (by omega) (by omega) qa qb qc qg qd qe qf qh
  have hBW : Below w.heap.size w W2 := hB.trans (hb2.mono (by omega))
  have HB2 := Lib.hid hb2
  have HRow := Lib.hid hrow2
  clear qa qb qc qd qe qf qg qh qz pa pb pc pd pz hrow hrow2 hb2
  go_wp2_with fail
  refine (from_any v (w.heap.size + 1 + 1) 0 (nb v) (firstK l (need n)) (fun j _ => firstK_bd HR.out.2.2.1 _ j) W2 (by omega) (fun j hj => ?_)).mono ?_
  · rw [Nat.zero_add, cell_of_row W2 _ j _ _ _ HRow.out, List.getElem?_toArray]
    exact firstK_at l (need n) (nb v) j hle hk hj
  rintro e w3 ⟨rfl, hw3⟩
  have bw3 := hBW.trans (hw3.mono hBW.size)
  obtain ⟨pa, pb, pc, pd, pz⟩ := cells2 hw3 p'z p'a p'b p'c p'd
  obtain ⟨qa, qb, qc, qg, qd, qe, qf, qh, qz⟩ := cells4 hw3 q'z q'a q'b q'c q'g q'd q'e q'f q'h
  have z3 := hw3.size
  clear q'a q'b q'c q'd q'e q'f q'g q'h q'z p'a p'b p'c p'd p'z hw3 hcp hsl HRow HB2 hBW hzW hz2 hB hz
  go_wp2_with fail
  refine (psane_any (digP v n l) _).mono ?_
  rintro e w4 ⟨rfl, hw4⟩
  have bw4 := below_of (w := w) (by go_grown) hw4
  obtain ⟨q'a, q'b, q'c, q'g, q'd, q'e, q'f, q'h, q'z⟩ := cells4 (b := w.heap.size + 1) hw4 (by go_size) (by go_simp <;> rfl) (by go_simp <;> rfl) (by go_simp <;> rfl) (by go_simp <;> rfl) (by go_simp <;> rfl) (by go_simp <;> rfl) (by go_simp <;> rfl) (by go_simp <;> rfl)
  obtain ⟨ra, rb, rc, rg, rd, re, rf, rh, rz⟩ := cells4 (b := w3.heap.size + 1) hw4 (by go_size) (by go_simp <;> rfl) (by go_simp <;> rfl) (by go_simp <;> rfl) (by go_simp <;> rfl) (by go_simp <;> rfl) (by go_simp <;> rfl) (by go_simp <;> rfl) (by go_simp <;> rfl)
  clear hw4 qa qb qc qd qe qf qg qh qz pa pb pc pd pz
  rw [hb]
  cases b
  · go_wp2
    refine bodyPost_ret (v := .tuple #[.agg #[.int .u64 0, .int .u64 0, .bool false, .int .i64 0], .int .i64 0, .int .i64 1]) (by simp [*, results, Try.results29, go_sem] <;> rfl) rfl ⟨rfl, ?_⟩
    go_grown
  · go_wp2
    refine bodyPost_ret (v := .tuple #[.agg #[.int .u64 (u (Pf.mk (fromv (firstK l (need n)) v) n).a.hi), .int .u64 (u (Pf.mk (fromv (firstK l (need n)) v) n).a.lo), .bool (Pf.mk (fromv (firstK l (need n)) v) n).a.v6, .int .i64 (Pf.mk (fromv (firstK l (need n)) v) n).n], .int .i64 (need n), .int .i64 0]) (by simp [*, results, Try.results29, go_sem] <;> rfl) rfl ⟨rfl, ?_⟩
    go_grown

end Go.Proofs.Ytibhabglmkgaaaa
