/-
  What Rank of package victim returns. Condition: the entries lie where the argument says.
-/
import Derived.Test.YtmmggalcebepeaaNs
import Derived.Deep.OwnRows
namespace Go.Proofs.Ytmmggalcebepeaa
open Go.RowKit
set_option maxRecDepth 100000

theorem idx_int0 (q n k : Nat) (h : k < n) (V : World) : (Instr.indexAt 30 (.slice (some ⟨q, 0, none⟩) n n) (.int .i64 (k : Int))).run Try.prog V = .ok (.pointer (some ⟨q, k, none⟩)) V := by
  have h0 : (0 : Int) ≤ (k : Int) := by omega
  have h1 : (k : Int) < (n : Int) := by omega
  go_simp
/-- k of the numbers are told. -/
def rkK (l : List Ent) (D : Nat → Nat) (n k : Nat) : List Int := (List.range n).map fun j => if j < k then nuL l (D j) else 0
theorem rkK_len (l : List Ent) (D : Nat → Nat) (n k : Nat) : (rkK l D n k).length = n := by simp [rkK]
theorem rkK_zero (l : List Ent) (D : Nat → Nat) (n : Nat) : rkK l D n 0 = List.replicate n 0 := by
  unfold rkK
  apply List.ext_getElem
  · simp
  · intro i h1 h2
    simp
theorem rkK_set (l : List Ent) (D : Nat → Nat) (n k : Nat) : (rkK l D n k).set k (nuL l (D k)) = rkK l D n (k + 1) := by
  unfold rkK
  apply List.ext_getElem
  · simp
  · intro i h1 h2
    rw [List.getElem_set, List.getElem_map, List.getElem_map, List.getElem_range]
    by_cases e : k = i
    · subst e
      rw [if_pos rfl, if_pos (by omega)]
    · rw [if_neg e]
      by_cases h : i < k
      · rw [if_pos h, if_pos (by omega)]
      · rw [if_neg h, if_neg (by omega)]
theorem rkK_end (pol : Int) (l : List Ent) (D : Nat → Nat) (h : (List.range l.length).map D = rnkN pol l) : rkK l D l.length l.length = rank pol l := by
  rw [rank_nuL, ← h, List.map_map]
  unfold rkK
  apply List.map_congr_left
  intro k hk
  rw [List.mem_range] at hk
  rw [if_pos hk]
  rfl
theorem ki_repl (n : Nat) : KI.row (List.replicate n 0) = List.replicate n (.int .i64 0) := by
  induction n with
  | zero => rfl
  | succ n ih => rw [List.replicate_succ, KI.row_cons, ih, List.replicate_succ]; rfl

set_option maxHeartbeats 4000000 in
theorem rank12_any (pol : Int) (A : Option Addr) (c : Nat) (l : List Ent) (w : World) (hr : KE.Rd w A l) (hA : A = none → l = [] ∧ c = 0) (hl : l.length ≤ 1000) :
    Calls Try.prog 12 #[.int .i64 pol, .slice A l.length c] w (IntPost w (rank pol l)) := by
  have c1 := Lib.hid (clone12_any A c l w hr hA (by omega))
  obtain ⟨n, hn⟩ : ∃ n, n = l.length := ⟨_, rfl⟩
  rw [← hn] at hl
  have HN := Lib.hid hn
  have c2 := Lib.hid (fun (W : World) B A c D (h : RP W B A n c (nth l) D) => reverse12_any W B A n c (nth l) D h (by omega))
  have c3 := Lib.hid (fun (W : World) B A c D (h : RP W B A n c (nth l) D) (hd : ∀ i j, i < j → j < n → D j < D i) => sortStable_any W B A n c (nth l) D h (ruleF pol) (cfP pol l) (rule_cmp pol l) (TT pol l) (tt_tol pol l) hd (by omega))
  have mk := fun W => run_make_row' (P := Try.prog) 30 3 (.int .i64 0) 8 Try.underlying30 info_int rfl .i64 .i64 n (by omega) (by omega) W
  rw [← hn]
  rw [← hn] at c1
  clear hr hA hn
  go_enter Try.func12, Try.ntmps12
  go_wp2_with fail
  refine c1.out.mono ?_
  rintro e w1 ⟨A1, d1, rfl, ho1, hb1⟩
  rw [← HN.out]
  have HR1 : Hid (RP w1 w.heap.size A1 n d1 (nth l) id) := Lib.hid (by
    unfold RP
    rw [HN.out, row_nth]
    exact ho1)
  have HB1 := Lib.hid hb1
  clear ho1 hb1 c1
  go_wp2_with fail
  refine (c2.out w1 _ _ _ _ HR1.out).mono ?_
  rintro e w2 ⟨D1, ⟨rfl, hr2, hb2⟩, hD1⟩
  have HR2 := Lib.hid hr2
  have HB2 := Lib.hid (HB1.out.trans hb2)
  have HD1 : Hid (∀ x, x < n → D1 x = n - 1 - x) := Lib.hid hD1
  clear hr2 hb2 hD1 HR1 HB1 c2
  go_wp2_with fail
  refine (rule_any pol w2).mono ?_
  rintro e w3 ⟨rfl, hb3⟩
  have fld : ∀ V : World, (Instr.field 41 (.agg #[.func (.func (ruleF pol)) #[] #[]]) 0).run Try.prog V = .ok (.func (.func (ruleF pol)) #[] #[]) V := fun V => by rfl
  have HR3 := Lib.hid (HR2.out.keep hb3)
  have HB3 := Lib.hid (HB2.out.trans (hb3.mono HB2.out.size))
  clear hb3 HR2 HB2
  go_wp2_with fail
  refine (c3.out w3 _ _ _ _ HR3.out (fun i j h1 h2 => by have h3 := HD1.out i (by omega); have h4 := HD1.out j h2; omega)).mono ?_
  rintro e w4 ⟨rfl, D2, hr4, hp4, hs4, hb4⟩
  have HR4 := Lib.hid hr4
  have HB4 := Lib.hid (HB3.out.trans hb4)
  have HRK : Hid (rkK l D2 n n = rank pol l) := Lib.hid (by
    rw [HN.out] at hp4 hs4 ⊢
    exact rkK_end pol l D2 (sorted_rank pol l D1 D2 (fun k hk => by have := HD1.out k (by rw [HN.out]; exact hk); rw [HN.out] at this; exact this) hp4 hs4))
  clear hr4 hp4 hs4 hb4 HR3 HB3 c3 HD1
  go_wp2_with fail
  go_loopw [23] (fun i wr => ∃ k : Nat, i = .int .i64 k ∧ k ≤ n ∧ wr.ownsRow w4.heap.size 3 1 (.slice (some ⟨w4.heap.size, 0, none⟩) n n) n (KI.row (rkK l D2 n k)) ∧ Below w4.heap.size w4 wr) (fun i _ => n - (RowKit.intOf i).toNat)
  case atStart => exact ⟨0, rfl, Nat.zero_le _, by rw [rkK_zero, ki_repl]; exact own_made (hp_new rfl) (by omega) (Nat.le_refl _), by go_grown⟩
  case round =>
    obtain ⟨k, rfl, hk, ho, hB⟩ := hrel
    have HO := Lib.hid ho
    have HB := Lib.hid hB
    have hz := hB.size
    obtain ⟨W, rfl⟩ : ∃ W, W = wr := ⟨_, rfl⟩
    by_cases hlt : k < n
    · have hlt' : (k : Int) < (n : Int) := by omega
      have hk9 : (k : Int) + 1 ≤ 1000000 := by omega
      have HLT := Lib.hid hlt
      obtain ⟨A0, rfl, gB, gz⟩ := HR4.out.addr (by omega)
      obtain ⟨p0, p1, -, -⟩ := HR4.out.cells k hlt
      have p0 := (hB.cell (p := ⟨A0, k * 2, none⟩) gz).trans p0
      have p1 := (hB.cell (p := ⟨A0, k * 2 + 1, none⟩) gz).trans p1
      have ip := fun V => idx_ent A0 n d1 k hlt V
      have iq := fun V => idx_int0 w4.heap.size n k hlt V
      have HXN : Hid ((nth l (D2 k)).i = nuL l (D2 k)) := Lib.hid rfl
      generalize nth l (D2 k) = x at p0 p1 HXN
      clear ho hB
      go_upto_region 8 with fail
      generalize hW : World.alloc _ _ = W3
      have HB3 : Hid (Below w4.heap.size w4 W3) := Lib.hid (by subst hW; exact HB.out.alloc hz _)
      have HO3 : Hid (W3.ownsRow w4.heap.size 3 1 (.slice (some ⟨w4.heap.size, 0, none⟩) n n) n (KI.row (rkK l D2 n k))) := Lib.hid (by subst hW; exact HO.out.alloc _)
      have y9 : W3.heap[W.heap.size]? = some (.cells #[.int .i64 x.i, .int .i64 x.sc] 35 (0, 0)) := by subst hW; exact hp_new rfl
      obtain ⟨b0, b1, -, -, bz⟩ := twoC y9
      obtain ⟨q0, qf0⟩ := KI_cell HO3.out (by rw [rkK_len]) k (by rw [rkK_len]; exact hlt)
      have HN3 := Lib.hid (KI_set HO3.out k (by rw [rkK_len]; exact hlt) x.i)
      have HBN := Lib.hid (HB3.out.setCell (p := ⟨w4.heap.size, k, none⟩) (Nat.le_refl _) (.int .i64 x.i))
      clear hW y9 p0 p1 HO HB
      have HST : Hid ((rkK l D2 n k).set k x.i = rkK l D2 n (k + 1)) := Lib.hid (by rw [HXN.out]; exact rkK_set l D2 n k)
      go_wp2
      go_roundw
      case rel => exact ⟨k + 1, by go_num, HLT.out, by rw [← HST.out]; exact HN3.out, HBN.out⟩
      case measure =>
        have := HLT.out
        simp [RowKit.intOf]
        omega
    · obtain rfl : k = n := by omega
      have hlt' : ¬ (k : Int) < (k : Int) := by omega
      have HF : Hid ((rank pol l).length = k) := Lib.hid (by rw [rank_len, HN.out])
      clear ho hB
      go_wp2
      go_ret
      refine ⟨_, _, by rw [HF.out]; rfl, ?_, HB4.out.trans (HB.out.mono HB4.out.size)⟩
      rw [HF.out, ← HRK.out]
      exact own_low HO.out HB4.out.size

end Go.Proofs.Ytmmggalcebepeaa
