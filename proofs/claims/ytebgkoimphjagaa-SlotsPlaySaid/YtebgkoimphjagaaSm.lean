/-
  What Used and New of the document's answer for layer 9 return. Condition: it lies where the argument says.
-/
import Derived.Test.YtebgkoimphjagaaSk
import Derived.Deep.RegionLaw
import Derived.Deep.OwnRows
import Derived.Deep.DeepCutAuto
namespace Go.Proofs.Ytebgkoimphjagaa
open Go.RowKit
set_option maxRecDepth 100000

set_option maxHeartbeats 2000000 in
theorem rused_any (w : World) (r : Rw) (s : Sl) (h : RfS w r s) (hk : s.Ok) :
    Calls Try.prog 28 #[r.v s] w (NatsPost w s.used) := by
  have k1 := hk.most
  have k2 := hk.pl
  have HR := Lib.hid h
  obtain ⟨A, ca, B, cb, C, cc⟩ := r
  have HU := Lib.hid (usedK_ext s s.most k2)
  clear h hk
  unfold Rw.v Rw.va Rw.vb Rw.vc
  simp only
  go_enter Try.func28, Try.ntmps28
  go_wp2_with fail
  generalize hW : World.alloc _ _ = W
  have hB : Below w.heap.size w W := by subst hW; go_grown
  have d1 : W.cell? ⟨w.heap.size, 1, none⟩ = some (.slice B s.most cb) := by subst hW; go_simp <;> rfl
  have hz0 : w.heap.size < W.heap.size := by subst hW; simp
  have HW := Lib.hid (HR.out.keep hB)
  have HB := Lib.hid hB
  clear hW hB HR
  go_loopw [3, 4] (fun l n wr => ∃ (k m : Nat) (A' : Option Addr) (c : Nat), k ≤ s.most ∧ n = .int .i64 k ∧ m = (s.usedK k).length ∧ l = .slice A' m c ∧ wr.ownsRow W.heap.size 3 1 l m (KN.row (s.usedK k)) ∧ Below W.heap.size W wr) (fun _ n _ => s.most - (intOf n).toNat)
  case atStart => exact ⟨0, 0, _, _, Nat.zero_le _, rfl, rfl, rfl, World.ownsRow_nil _ _ _ _, Below.refl _ _⟩
  case round =>
    obtain ⟨k, m, B', d, hkl, rfl, hm, rfl, ho, hBr⟩ := hrel
    have HO := Lib.hid ho
    have HM := Lib.hid hm
    have hm9 := usedK_le s k
    rw [← hm] at hm9
    have hz := hBr.size
    have e1 := (hBr.cell (p := ⟨w.heap.size, 1, none⟩) hz0).trans d1
    clear ho hm
    by_cases hlt : k < s.most
    · have t1 : decide ((k : Int) < (s.most : Int)) = true := by simp; omega
      obtain ⟨g, off, e, hg, hc⟩ := (HW.out.keep hBr).is hlt
      simp only at e
      subst e
      have HS := Lib.hid (usedK_succ s k)
      cases hy : (s.atN k).is
      · rw [hy] at HS hc
        go_wp2
        go_roundw
        case rel => exact ⟨k + 1, m, B', d, by omega, by go_num, by rw [HS.out]; exact HM.out, rfl, by rw [HS.out]; exact HO.out, hBr⟩
        case measure => simp [intOf]; omega
      · rw [hy] at HS hc
        go_wp2_with (
          at_builtin
          refine Kd.wpList_one KN_ty rfl (.tmp 17) (.tmp 19) rfl W.heap.size _ m (s.usedK k) HM.out (by rfl) (HO.out.alloc _) wr.heap.size k (by rfl) (hp_new rfl) (by omega) (by simp; omega) ?_
          intro A' c' w3 hG
          have HG := Lib.hid hG
          clear hG
          )
        go_roundw
        case rel =>
          refine ⟨k + 1, m + 1, A', c', by omega, by go_num, by rw [HS.out]; simp [HM.out], rfl, ?_, ?_⟩
          · rw [HS.out]
            exact HG.out.1
          · exact (hBr.trans ((Below.refl _ _).alloc hz _)).trans HG.out.2.2.2
        case measure => simp [intOf]; omega
    · have hkl' : k = s.most := by omega
      subst hkl'
      have t1 : decide ((s.most : Int) < (s.most : Int)) = false := by simp
      go_wp2
      go_ret
      have ho' := HO.out
      have hm' := HM.out
      rw [HU.out] at ho' hm'
      subst hm'
      exact ⟨_, _, rfl, own_low ho' HB.out.size, HB.out.trans (hBr.mono HB.out.size)⟩

theorem own_made {w : World} {g N base : Nat} {E : TypeId} {z : Value} (hg : w.heap[g]? = some (.cells (madeCells #[z] N) E (0, 0))) (hN : N ≤ 1024) (hb : base ≤ g) : w.ownsRow base E 1 (.slice (some ⟨g, 0, none⟩) N N) N (List.replicate N z) := by
  refine ⟨by simp, .inr ⟨g, N, _, rfl, hb, hg, Nat.le_refl _, by simp only [maxLen]; omega, by rw [size_madeCells, Nat.mul_one], ?_⟩⟩
  rw [toList_madeCells_one, Nat.mul_one, List.take_of_length_le (by simp)]
theorem new_atN (m : Int) (j : Nat) : (Sl.new m).atN j = plz := atN_out _ _ (by simp [Sl.new])
theorem flat_const (v : Value) (l : List Nat) : l.flatMap (fun _ => [v]) = List.replicate l.length v := by
  induction l with
  | nil => rfl
  | cons a l ih => rw [List.flatMap_cons, ih]; rfl
theorem newI (m : Int) (N : Nat) (h : (Sl.new m).most = N) : KI.row (vsS (Sl.new m)) = List.replicate N (.int .i64 0) := by
  unfold vsS Kd.row
  rw [h, List.flatMap_map]
  simp only [new_atN]
  exact (flat_const (.int .i64 0 : Value) (List.range N)).trans (by simp)
theorem newB (m : Int) (N : Nat) (h : (Sl.new m).most = N) : KB.row (isS (Sl.new m)) = List.replicate N (.bool false) := by
  unfold isS Kd.row
  rw [h, List.flatMap_map]
  simp only [new_atN]
  exact (flat_const (.bool false : Value) (List.range N)).trans (by simp)
set_option maxHeartbeats 2000000 in
theorem rnew_any (m : Int) (w : World) : Calls Try.prog 10 #[.int .i64 m] w (OwnPost w (Sl.new m)) := by
  obtain ⟨N, hN, hN4⟩ : ∃ N : Nat, max 0 (min m 1024) = (N : Int) ∧ N ≤ 1024 := ⟨(max 0 (min m 1024)).toNat, by omega, by omega⟩
  have hm : (Sl.new m).most = N := by simp only [Sl.new]; omega
  have HM := Lib.hid hm
  have m1 := fun W => run_make_row' (P := Try.prog) 26 3 (.int .i64 0) 8 Try.underlying26 info_int rfl .i64 .i64 N (by omega) (by omega) W
  have m2 := fun W => run_make_row' (P := Try.prog) 27 4 (.bool false) 1 Try.underlying27 info_bool rfl .i64 .i64 N (by omega) (by omega) W
  clear hm
  go_enter Try.func10, Try.ntmps10
  go_upto_region 1 with fail
  generalize hW : World.alloc _ _ = W
  have hB : Below w.heap.size w W := by subst hW; go_grown
  have hq : W.heap[w.heap.size]? = some (.cells #[.slice none 0 0, .slice none 0 0, .slice none 0 0, .int .i64 0] 29 (0, 0)) := by subst hW; exact hp_new rfl
  have hz : w.heap.size + 1 = W.heap.size := by subst hW; simp
  clear hW
  go_cut [3] (fun n wx => n = .int .i64 N ∧ wx = W)
  case first =>
    go_wp2_with fail
    all_goals
      go_meet
      case rel => exact ⟨by congr 1; omega, rfl⟩
  case rest =>
    obtain ⟨rfl, rfl⟩ := hcut
    go_upto_region 2 with fail
    have hlt : w.heap.size < wc.heap.size := by omega
    have q0 : wc.cell? ⟨w.heap.size, 0, none⟩ = some (.slice none 0 0) := by rw [cell_row hq]; rfl
    have q1 : wc.cell? ⟨w.heap.size, 1, none⟩ = some (.slice none 0 0) := by rw [cell_row hq]; rfl
    have q2 : wc.cell? ⟨w.heap.size, 2, none⟩ = some (.slice none 0 0) := by rw [cell_row hq]; rfl
    have q3 : wc.cell? ⟨w.heap.size, 3, none⟩ = some (.int .i64 0) := by rw [cell_row hq]; rfl
    have f0 : wc.frozen? ⟨w.heap.size, 0, none⟩ = false := frozen_of_row _ _ _ _ _ hq
    have f1 : wc.frozen? ⟨w.heap.size, 1, none⟩ = false := frozen_of_row _ _ _ _ _ hq
    have f2 : wc.frozen? ⟨w.heap.size, 2, none⟩ = false := frozen_of_row _ _ _ _ _ hq
    have f3 : wc.frozen? ⟨w.heap.size, 3, none⟩ = false := frozen_of_row _ _ _ _ _ hq
    have HQ := Lib.hid hq
    clear hq hz
    go_region_held3 (fun w' => Below w.heap.size w w') (first | go_grown) (fail)
    all_goals
      go_wp2
    · refine bodyPost_ret (v := .agg #[.slice (some ⟨wc.heap.size, 0, none⟩) N N, .slice (some ⟨wc.heap.size + 1, 0, none⟩) N N, .slice none 0 0, .int .i64 0]) (by simp [*, results, Try.results10, go_sem] <;> rfl) rfl ⟨⟨some ⟨wc.heap.size, 0, none⟩, N, some ⟨wc.heap.size + 1, 0, none⟩, N, none, 0⟩, by simp only [Rw.va, Rw.vb, Rw.vc, HM.out]; rfl, ⟨?_, ?_, ?_, fun _ b _ e => by simp [Rw.vc, Value.ownBlock] at e⟩, by assumption⟩
      · simp only [Rw.va, HM.out]
        rw [newI m N HM.out]
        refine own_made ?_ hN4 (by omega)
        rw [heap_drew]
        exact hp_old (by simp) (hp_new (by simp))
      · simp only [Rw.vb, HM.out]
        rw [newB m N HM.out]
        refine own_made ?_ hN4 (by omega)
        rw [heap_drew]
        exact hp_new (by simp)
      · exact World.ownsRow_nil _ _ _ _
    · refine bodyPost_ret (v := .agg #[.slice (some ⟨wc.heap.size + 1, 0, none⟩) N N, .slice (some ⟨wc.heap.size, 0, none⟩) N N, .slice none 0 0, .int .i64 0]) (by simp [*, results, Try.results10, go_sem] <;> rfl) rfl ⟨⟨some ⟨wc.heap.size + 1, 0, none⟩, N, some ⟨wc.heap.size, 0, none⟩, N, none, 0⟩, by simp only [Rw.va, Rw.vb, Rw.vc, HM.out]; rfl, ⟨?_, ?_, ?_, fun _ b _ e => by simp [Rw.vc, Value.ownBlock] at e⟩, by assumption⟩
      · simp only [Rw.va, HM.out]
        rw [newI m N HM.out]
        refine own_made ?_ hN4 (by omega)
        rw [heap_drew]
        exact hp_new (by simp)
      · simp only [Rw.vb, HM.out]
        rw [newB m N HM.out]
        refine own_made ?_ hN4 (by omega)
        rw [heap_drew]
        exact hp_old (by simp) (hp_new (by simp))
      · exact World.ownsRow_nil _ _ _ _

end Go.Proofs.Ytebgkoimphjagaa
