/-
  The sketch and the document's answer side by side: what a step leaves of both. Condition: as said.
-/
import Derived.Test.YtpigdjlanabacaaX2
import Derived.Test.YtpigdjlanabacaaReg
import Derived.StillTail
namespace Go.Proofs.Ytpigdjlanabacaa
open Go.RowKit
set_option maxRecDepth 100000

theorem new_row (rows width : Int) (i M : Nat) (h : (Sk.new rows width).m = M) : (Sk.new rows width).row i = List.replicate M 0 := by
  subst h
  unfold Sk.row
  rw [show (Sk.new rows width).C i = fun _ => 0 from rfl]
  simp [List.map_const']
/-- A box of one's own, of one cell. -/
def SBx (w0 : World) (b : Nat) (wr : World) : Prop := wr.heap[b]? = some (.cells #[.slice none 0 0] 33 (0, 0)) ∧ Below w0.heap.size w0 wr
theorem SBx.keep {w : World} {wr V w' : World} (h : SBx (w.alloc (.cells #[.slice none 0 0] 33)) w.heap.size wr) (hV : Below (w.alloc (.cells #[.slice none 0 0] 33)).heap.size wr V) (hb : Below (w.heap.size + 1) V w') : SBx (w.alloc (.cells #[.slice none 0 0] 33)) w.heap.size w' := by
  have hz : (w.alloc (.cells #[.slice none 0 0] 33)).heap.size = w.heap.size + 1 := by simp
  rw [hz] at hV
  refine ⟨(hb.block _ (by omega)).trans ((hV.block _ (by omega)).trans h.1), ?_⟩
  have h2 := h.2
  rw [hz] at h2 ⊢
  exact (h2.trans hV).trans hb
theorem SBx.at {w wr : World} (h : SBx (w.alloc (.cells #[.slice none 0 0] 33)) w.heap.size wr) : wr.cell? ⟨w.heap.size, 0, none⟩ = some (.slice none 0 0) ∧ wr.frozen? ⟨w.heap.size, 0, none⟩ = false ∧ w.heap.size < wr.heap.size :=
  ⟨by rw [cell_row h.1]; rfl, frozen_of_row _ _ _ _ _ h.1, lt_of_block h.1⟩
theorem SBx.out {w wr : World} (h : SBx (w.alloc (.cells #[.slice none 0 0] 33)) w.heap.size wr) (y : Value) : Below w.heap.size w (wr.setCell ⟨w.heap.size, 0, none⟩ y) := by
  have h1 : Below w.heap.size w (w.alloc (.cells #[.slice none 0 0] 33)) := by go_grown
  exact (h1.trans (h.2.mono (by simp))).setCell (p := ⟨w.heap.size, 0, none⟩) (Nat.le_refl _) _
/-- Rows that lie in blocks from B on: whatever leaves these blocks leaves the rows. -/
def RB (B : Nat) (w : World) (A : Option Addr) (L : List (List Nat)) : Prop := ∀ w' : World, (∀ k, B ≤ k → k < w.heap.size → w'.heap[k]? = w.heap[k]?) → RR KN w' A L
theorem RB.rr {B : Nat} {w : World} {A : Option Addr} {L : List (List Nat)} (h : RB B w A L) : RR KN w A L := h w (fun _ _ _ => rfl)
theorem RB.low {B B' : Nat} {w : World} {A : Option Addr} {L : List (List Nat)} (h : RB B w A L) (hb : B' ≤ B) : RB B' w A L := fun w' hw => h w' (fun k hk hl => hw k (Nat.le_trans hb hk) hl)
theorem RB.frm {B : Nat} {w w1 : World} {A : Option Addr} {L : List (List Nat)} {S : Nat → Prop} (h : RB B w A L) (hf : Frm S w w1) (hS : ∀ b, S b → b < B) : RB B w1 A L := fun w' hw => h w' (fun k hk hl => (hw k hk (Nat.lt_of_lt_of_le hl hf.size)).trans (hf.block k hl (fun e => by have := hS k e; omega)))
theorem RB.keep {B : Nat} {w w1 : World} {A : Option Addr} {L : List (List Nat)} (h : RB B w A L) (hb : Below w.heap.size w w1) : RB B w1 A L := h.frm (S := fun _ => False) (frm_of_below hb) (fun _ e => e.elim)
theorem RoR.out {B b : Nat} {w : World} {L : List (List Nat)} {A : Option Addr} {c : Nat} (h : RoR B w L A c) (hb : b < B) (i : Nat) (y : Value) : RB B (w.setCell ⟨b, i, none⟩ y) A L := by
  obtain ⟨xs, h1, h2, h3⟩ := h
  intro w' hw
  have hz : (w.setCell ⟨b, i, none⟩ y).heap.size = w.heap.size := by simp [World.setCell]
  have hn : ∀ k, B ≤ k → k < w.heap.size → w'.heap[k]? = w.heap[k]? := fun k hk hl => (hw k hk (by rw [hz]; exact hl)).trans (Below.heap_setCell _ _ _ _ (by simp only; omega))
  exact RoR.rr (B := B) (c := c) ⟨xs, h1, own_block h2 fun k hk hl => hn k (own_ge h2 k hk) hl, fun i a b => ⟨(h3 i a b).1, own_block (h3 i a b).2 fun k hk hl => hn k (own_ge (h3 i a b).2 k hk) hl⟩⟩
def RgPost (w : World) (s : Sk) (e : Ending) (w' : World) : Prop := ∃ A c, e = .returned (.agg #[.slice A s.n c]) ∧ RB w.heap.size w' A s.rows ∧ Below w.heap.size w w'
set_option maxHeartbeats 4000000 in
theorem rknew_any (rows width : Int) (w : World) : Calls Try.prog 10 #[.int .i64 rows, .int .i64 width] w (RgPost w (Sk.new rows width)) := by
  have mk8 := fun (N : Nat) (h : N ≤ 1024) (W : World) => run_make_row' (P := Try.prog) 56 3 (.int .i64 0) 8 Try.underlying56 info_int rfl .i64 .i64 N (by omega) (by omega) W
  rcases Int.lt_or_le 1 width with h2 | h2
  · rcases Int.lt_or_le 256 width with h4 | h4
    · have m2 : ∀ W : World, (Instr.makeSlice 56 (.int .i64 256) (.int .i64 256)).run Try.prog W = .ok (.slice (some ⟨W.heap.size, 0, none⟩) 256 256) (W.alloc (.cells (madeCells #[.int .i64 0] 256) 3)) := mk8 256 (by omega)
      clear mk8
      rcases Int.lt_or_le 1 rows with h1 | h1
      · rcases Int.lt_or_le 4 rows with h3 | h3
        · have HNM : Hid ((Sk.new rows width).n = 4 ∧ (Sk.new rows width).m = 256 ∧ ∀ i, (Sk.new rows width).row i = List.replicate 256 0) := Lib.hid ⟨by simp only [Sk.new]; omega, by simp only [Sk.new]; omega, fun i => new_row _ _ i _ (by simp only [Sk.new]; omega)⟩
          generalize Sk.new rows width = s0 at HNM ⊢
          go_enter Try.func10, Try.ntmps10
          go_wp2_with fail
          go_loopw [5, 6] (fun x n wr => ∃ (k : Nat) (A : Option Addr) (c : Nat), k ≤ 4 ∧ n = .int .i64 k ∧ x = .slice A k c ∧ RoR (w.heap.size + 1) wr (rowsJ s0 k) A c ∧ SBx (w.alloc (.cells #[.slice none 0 0] 33)) w.heap.size wr) (fun _ n _ => 4 - (intOf n).toNat)
          case atStart => exact ⟨0, none, 0, Nat.zero_le _, rfl, rfl, RoR.nil _ _, hp_new rfl, by simpa using Below.refl _ _⟩
          case round =>
            obtain ⟨k, A, c, hk, rfl, rfl, hr, hb⟩ := hrel
            have HR := Lib.hid hr
            have HB := Lib.hid hb
            clear hr
            by_cases hlt : k < 4
            · have t1 : decide ((k : Int) < 4) = true := by simp; omega
              have k1 : (k : Int) < 4 := by omega
              have hr2 : Below wr.heap.size wr ((wr.alloc (.cells (madeCells #[.int .i64 0] 256) 3)).alloc (.cells #[.slice (some ⟨wr.heap.size, 0, none⟩) 256 256] 56)) := by go_grown
              obtain ⟨xs, hxl, hxo⟩ := (HR.out.keep hr2).own
              rw [rowsJ_len] at hxl hxo
              have HXO := Lib.hid hxo
              have HR2 := Lib.hid hr2
              have zb := hb.2.size
              clear hxo hb hr2
              go_wp2_with (
                at_builtin
                refine Kd.wpList_one KR_ty rfl (.tmp 14) (.tmp 19) rfl (w.heap.size + 1) _ k _ hxl (by rfl) HXO.out (wr.heap.size + 1) ⟨some ⟨wr.heap.size, 0, none⟩, 256, 256⟩ (by rfl) (hp_new (by simp)) (by omega) (by simp at zb ⊢; omega) ?_
                intro A' c' w7 hG
                have HG7 := Lib.hid hG
                clear hG
                )
              go_roundw
              case rel =>
                have ho2 : ((wr.alloc (.cells (madeCells #[.int .i64 0] 256) 3)).alloc (.cells #[.slice (some ⟨wr.heap.size, 0, none⟩) 256 256] 56)).ownsRow (w.heap.size + 1) 3 1 (.slice (some ⟨wr.heap.size, 0, none⟩) (s0.row k).length 256) (s0.row k).length (KN.row (s0.row k)) := by
                  rw [HNM.out.2.2 k, List.length_replicate, kn_zero]
                  exact World.ownsRow.alloc (own_made (hp_new rfl) (by omega) (by simp at zb; omega)) _
                have h3 := RoR.snoc (A2 := some ⟨wr.heap.size, 0, none⟩) (c2 := 256) (l := s0.row k) (HR.out.keep HR2.out) (by rw [rowsJ_len]; exact HXO.out) (Below.refl _ _) ho2 (A' := A') (c' := c') (w' := w7) (by rw [rowsJ_len, show (s0.row k).length = 256 from by rw [HNM.out.2.2 k, List.length_replicate]]; exact HG7.out)
                rw [← rowsJ_succ] at h3
                have hz : (w.alloc (.cells #[.slice none 0 0] 33)).heap.size = w.heap.size + 1 := by simp
                exact ⟨k + 1, A', c', by omega, by go_num, by rw [← hxl], h3, HB.out.keep (HR2.out.mono (by rw [hz] at zb ⊢; exact zb)) HG7.out.2.2.2⟩
              case measure => simp [intOf]; omega
            · have hkN : 4 = k := by omega
              subst hkN
              have t1 : decide ((4 : Int) < 4) = false := by simp
              obtain ⟨q0, q1, q2⟩ := hb.at
              have HF : Hid (∀ y, Below w.heap.size w (wr.setCell ⟨w.heap.size, 0, none⟩ y) ∧ RB w.heap.size (wr.setCell ⟨w.heap.size, 0, none⟩ y) A (rowsJ s0 4)) := Lib.hid (fun y => ⟨hb.out y, (HR.out.out (Nat.lt_succ_self _) _ y).low (Nat.le_succ _)⟩)
              clear hb HR HB
              go_wp2
              refine bodyPost_ret (v := .agg #[.slice A 4 c]) (by simp [*, results, Try.results10, go_sem] <;> rfl) rfl ?_
              obtain ⟨e1, e2⟩ := HF.out (.slice A 4 c)
              refine ⟨A, c, by rw [HNM.out.1], ?_, e1⟩
              have e3 : s0.rows = rowsJ s0 4 := by unfold Sk.rows rowsJ; rw [HNM.out.1]
              rw [e3]
              exact e2
        · obtain ⟨N, rfl⟩ := Int.eq_ofNat_of_zero_le (show 0 ≤ rows by omega)
          have HNM : Hid ((Sk.new (N : Int) width).n = N ∧ (Sk.new (N : Int) width).m = 256 ∧ ∀ i, (Sk.new (N : Int) width).row i = List.replicate 256 0) := Lib.hid ⟨by simp only [Sk.new]; omega, by simp only [Sk.new]; omega, fun i => new_row _ _ i _ (by simp only [Sk.new]; omega)⟩
          generalize Sk.new (N : Int) width = s0 at HNM ⊢
          go_enter Try.func10, Try.ntmps10
          go_wp2_with fail
          go_loopw [5, 6] (fun x n wr => ∃ (k : Nat) (A : Option Addr) (c : Nat), k ≤ N ∧ n = .int .i64 k ∧ x = .slice A k c ∧ RoR (w.heap.size + 1) wr (rowsJ s0 k) A c ∧ SBx (w.alloc (.cells #[.slice none 0 0] 33)) w.heap.size wr) (fun _ n _ => N - (intOf n).toNat)
          case atStart => exact ⟨0, none, 0, Nat.zero_le _, rfl, rfl, RoR.nil _ _, hp_new rfl, by simpa using Below.refl _ _⟩
          case round =>
            obtain ⟨k, A, c, hk, rfl, rfl, hr, hb⟩ := hrel
            have HR := Lib.hid hr
            have HB := Lib.hid hb
            clear hr
            by_cases hlt : k < N
            · have t1 : decide ((k : Int) < (N : Int)) = true := by simp; omega
              have k1 : (k : Int) < (N : Int) := by omega
              have hr2 : Below wr.heap.size wr ((wr.alloc (.cells (madeCells #[.int .i64 0] 256) 3)).alloc (.cells #[.slice (some ⟨wr.heap.size, 0, none⟩) 256 256] 56)) := by go_grown
              obtain ⟨xs, hxl, hxo⟩ := (HR.out.keep hr2).own
              rw [rowsJ_len] at hxl hxo
              have HXO := Lib.hid hxo
              have HR2 := Lib.hid hr2
              have zb := hb.2.size
              clear hxo hb hr2
              go_wp2_with (
                at_builtin
                refine Kd.wpList_one KR_ty rfl (.tmp 14) (.tmp 19) rfl (w.heap.size + 1) _ k _ hxl (by rfl) HXO.out (wr.heap.size + 1) ⟨some ⟨wr.heap.size, 0, none⟩, 256, 256⟩ (by rfl) (hp_new (by simp)) (by omega) (by simp at zb ⊢; omega) ?_
                intro A' c' w7 hG
                have HG7 := Lib.hid hG
                clear hG
                )
              go_roundw
              case rel =>
                have ho2 : ((wr.alloc (.cells (madeCells #[.int .i64 0] 256) 3)).alloc (.cells #[.slice (some ⟨wr.heap.size, 0, none⟩) 256 256] 56)).ownsRow (w.heap.size + 1) 3 1 (.slice (some ⟨wr.heap.size, 0, none⟩) (s0.row k).length 256) (s0.row k).length (KN.row (s0.row k)) := by
                  rw [HNM.out.2.2 k, List.length_replicate, kn_zero]
                  exact World.ownsRow.alloc (own_made (hp_new rfl) (by omega) (by simp at zb; omega)) _
                have h3 := RoR.snoc (A2 := some ⟨wr.heap.size, 0, none⟩) (c2 := 256) (l := s0.row k) (HR.out.keep HR2.out) (by rw [rowsJ_len]; exact HXO.out) (Below.refl _ _) ho2 (A' := A') (c' := c') (w' := w7) (by rw [rowsJ_len, show (s0.row k).length = 256 from by rw [HNM.out.2.2 k, List.length_replicate]]; exact HG7.out)
                rw [← rowsJ_succ] at h3
                have hz : (w.alloc (.cells #[.slice none 0 0] 33)).heap.size = w.heap.size + 1 := by simp
                exact ⟨k + 1, A', c', by omega, by go_num, by rw [← hxl], h3, HB.out.keep (HR2.out.mono (by rw [hz] at zb ⊢; exact zb)) HG7.out.2.2.2⟩
              case measure => simp [intOf]; omega
            · have hkN : N = k := by omega
              subst hkN
              have t1 : decide (((N : Int) : Int) < (N : Int)) = false := by simp
              obtain ⟨q0, q1, q2⟩ := hb.at
              have HF : Hid (∀ y, Below w.heap.size w (wr.setCell ⟨w.heap.size, 0, none⟩ y) ∧ RB w.heap.size (wr.setCell ⟨w.heap.size, 0, none⟩ y) A (rowsJ s0 N)) := Lib.hid (fun y => ⟨hb.out y, (HR.out.out (Nat.lt_succ_self _) _ y).low (Nat.le_succ _)⟩)
              clear hb HR HB
              go_wp2
              refine bodyPost_ret (v := .agg #[.slice A N c]) (by simp [*, results, Try.results10, go_sem] <;> rfl) rfl ?_
              obtain ⟨e1, e2⟩ := HF.out (.slice A N c)
              refine ⟨A, c, by rw [HNM.out.1], ?_, e1⟩
              have e3 : s0.rows = rowsJ s0 N := by unfold Sk.rows rowsJ; rw [HNM.out.1]
              rw [e3]
              exact e2
      · have h3 : rows ≤ 4 := by omega
        have HNM : Hid ((Sk.new rows width).n = 1 ∧ (Sk.new rows width).m = 256 ∧ ∀ i, (Sk.new rows width).row i = List.replicate 256 0) := Lib.hid ⟨by simp only [Sk.new]; omega, by simp only [Sk.new]; omega, fun i => new_row _ _ i _ (by simp only [Sk.new]; omega)⟩
        generalize Sk.new rows width = s0 at HNM ⊢
        go_enter Try.func10, Try.ntmps10
        go_wp2_with fail
        go_loopw [5, 6] (fun x n wr => ∃ (k : Nat) (A : Option Addr) (c : Nat), k ≤ 1 ∧ n = .int .i64 k ∧ x = .slice A k c ∧ RoR (w.heap.size + 1) wr (rowsJ s0 k) A c ∧ SBx (w.alloc (.cells #[.slice none 0 0] 33)) w.heap.size wr) (fun _ n _ => 1 - (intOf n).toNat)
        case atStart => exact ⟨0, none, 0, Nat.zero_le _, rfl, rfl, RoR.nil _ _, hp_new rfl, by simpa using Below.refl _ _⟩
        case round =>
          obtain ⟨k, A, c, hk, rfl, rfl, hr, hb⟩ := hrel
          have HR := Lib.hid hr
          have HB := Lib.hid hb
          clear hr
          by_cases hlt : k < 1
          · have t1 : decide ((k : Int) < 1) = true := by simp; omega
            have k1 : (k : Int) < 1 := by omega
            have hr2 : Below wr.heap.size wr ((wr.alloc (.cells (madeCells #[.int .i64 0] 256) 3)).alloc (.cells #[.slice (some ⟨wr.heap.size, 0, none⟩) 256 256] 56)) := by go_grown
            obtain ⟨xs, hxl, hxo⟩ := (HR.out.keep hr2).own
            rw [rowsJ_len] at hxl hxo
            have HXO := Lib.hid hxo
            have HR2 := Lib.hid hr2
            have zb := hb.2.size
            clear hxo hb hr2
            go_wp2_with (
              at_builtin
              refine Kd.wpList_one KR_ty rfl (.tmp 14) (.tmp 19) rfl (w.heap.size + 1) _ k _ hxl (by rfl) HXO.out (wr.heap.size + 1) ⟨some ⟨wr.heap.size, 0, none⟩, 256, 256⟩ (by rfl) (hp_new (by simp)) (by omega) (by simp at zb ⊢; omega) ?_
              intro A' c' w7 hG
              have HG7 := Lib.hid hG
              clear hG
              )
            go_roundw
            case rel =>
              have ho2 : ((wr.alloc (.cells (madeCells #[.int .i64 0] 256) 3)).alloc (.cells #[.slice (some ⟨wr.heap.size, 0, none⟩) 256 256] 56)).ownsRow (w.heap.size + 1) 3 1 (.slice (some ⟨wr.heap.size, 0, none⟩) (s0.row k).length 256) (s0.row k).length (KN.row (s0.row k)) := by
                rw [HNM.out.2.2 k, List.length_replicate, kn_zero]
                exact World.ownsRow.alloc (own_made (hp_new rfl) (by omega) (by simp at zb; omega)) _
              have h3 := RoR.snoc (A2 := some ⟨wr.heap.size, 0, none⟩) (c2 := 256) (l := s0.row k) (HR.out.keep HR2.out) (by rw [rowsJ_len]; exact HXO.out) (Below.refl _ _) ho2 (A' := A') (c' := c') (w' := w7) (by rw [rowsJ_len, show (s0.row k).length = 256 from by rw [HNM.out.2.2 k, List.length_replicate]]; exact HG7.out)
              rw [← rowsJ_succ] at h3
              have hz : (w.alloc (.cells #[.slice none 0 0] 33)).heap.size = w.heap.size + 1 := by simp
              exact ⟨k + 1, A', c', by omega, by go_num, by rw [← hxl], h3, HB.out.keep (HR2.out.mono (by rw [hz] at zb ⊢; exact zb)) HG7.out.2.2.2⟩
            case measure => simp [intOf]; omega
          · have hkN : 1 = k := by omega
            subst hkN
            have t1 : decide ((1 : Int) < 1) = false := by simp
            obtain ⟨q0, q1, q2⟩ := hb.at
            have HF : Hid (∀ y, Below w.heap.size w (wr.setCell ⟨w.heap.size, 0, none⟩ y) ∧ RB w.heap.size (wr.setCell ⟨w.heap.size, 0, none⟩ y) A (rowsJ s0 1)) := Lib.hid (fun y => ⟨hb.out y, (HR.out.out (Nat.lt_succ_self _) _ y).low (Nat.le_succ _)⟩)
            clear hb HR HB
            go_wp2
            refine bodyPost_ret (v := .agg #[.slice A 1 c]) (by simp [*, results, Try.results10, go_sem] <;> rfl) rfl ?_
            obtain ⟨e1, e2⟩ := HF.out (.slice A 1 c)
            refine ⟨A, c, by rw [HNM.out.1], ?_, e1⟩
            have e3 : s0.rows = rowsJ s0 1 := by unfold Sk.rows rowsJ; rw [HNM.out.1]
            rw [e3]
            exact e2
    · obtain ⟨M, rfl⟩ := Int.eq_ofNat_of_zero_le (show 0 ≤ width by omega)
      have m2 : ∀ W : World, (Instr.makeSlice 56 (.int .i64 (M : Int)) (.int .i64 (M : Int))).run Try.prog W = .ok (.slice (some ⟨W.heap.size, 0, none⟩) M M) (W.alloc (.cells (madeCells #[.int .i64 0] M) 3)) := mk8 M (by omega)
      clear mk8
      rcases Int.lt_or_le 1 rows with h1 | h1
      · rcases Int.lt_or_le 4 rows with h3 | h3
        · have HNM : Hid ((Sk.new rows (M : Int)).n = 4 ∧ (Sk.new rows (M : Int)).m = M ∧ ∀ i, (Sk.new rows (M : Int)).row i = List.replicate M 0) := Lib.hid ⟨by simp only [Sk.new]; omega, by simp only [Sk.new]; omega, fun i => new_row _ _ i _ (by simp only [Sk.new]; omega)⟩
          generalize Sk.new rows (M : Int) = s0 at HNM ⊢
          go_enter Try.func10, Try.ntmps10
          go_wp2_with fail
          go_loopw [5, 6] (fun x n wr => ∃ (k : Nat) (A : Option Addr) (c : Nat), k ≤ 4 ∧ n = .int .i64 k ∧ x = .slice A k c ∧ RoR (w.heap.size + 1) wr (rowsJ s0 k) A c ∧ SBx (w.alloc (.cells #[.slice none 0 0] 33)) w.heap.size wr) (fun _ n _ => 4 - (intOf n).toNat)
          case atStart => exact ⟨0, none, 0, Nat.zero_le _, rfl, rfl, RoR.nil _ _, hp_new rfl, by simpa using Below.refl _ _⟩
          case round =>
            obtain ⟨k, A, c, hk, rfl, rfl, hr, hb⟩ := hrel
            have HR := Lib.hid hr
            have HB := Lib.hid hb
            clear hr
            by_cases hlt : k < 4
            · have t1 : decide ((k : Int) < 4) = true := by simp; omega
              have k1 : (k : Int) < 4 := by omega
              have hr2 : Below wr.heap.size wr ((wr.alloc (.cells (madeCells #[.int .i64 0] M) 3)).alloc (.cells #[.slice (some ⟨wr.heap.size, 0, none⟩) M M] 56)) := by go_grown
              obtain ⟨xs, hxl, hxo⟩ := (HR.out.keep hr2).own
              rw [rowsJ_len] at hxl hxo
              have HXO := Lib.hid hxo
              have HR2 := Lib.hid hr2
              have zb := hb.2.size
              clear hxo hb hr2
              go_wp2_with (
                at_builtin
                refine Kd.wpList_one KR_ty rfl (.tmp 14) (.tmp 19) rfl (w.heap.size + 1) _ k _ hxl (by rfl) HXO.out (wr.heap.size + 1) ⟨some ⟨wr.heap.size, 0, none⟩, M, M⟩ (by rfl) (hp_new (by simp)) (by omega) (by simp at zb ⊢; omega) ?_
                intro A' c' w7 hG
                have HG7 := Lib.hid hG
                clear hG
                )
              go_roundw
              case rel =>
                have ho2 : ((wr.alloc (.cells (madeCells #[.int .i64 0] M) 3)).alloc (.cells #[.slice (some ⟨wr.heap.size, 0, none⟩) M M] 56)).ownsRow (w.heap.size + 1) 3 1 (.slice (some ⟨wr.heap.size, 0, none⟩) (s0.row k).length M) (s0.row k).length (KN.row (s0.row k)) := by
                  rw [HNM.out.2.2 k, List.length_replicate, kn_zero]
                  exact World.ownsRow.alloc (own_made (hp_new rfl) (by omega) (by simp at zb; omega)) _
                have h3 := RoR.snoc (A2 := some ⟨wr.heap.size, 0, none⟩) (c2 := M) (l := s0.row k) (HR.out.keep HR2.out) (by rw [rowsJ_len]; exact HXO.out) (Below.refl _ _) ho2 (A' := A') (c' := c') (w' := w7) (by rw [rowsJ_len, show (s0.row k).length = M from by rw [HNM.out.2.2 k, List.length_replicate]]; exact HG7.out)
                rw [← rowsJ_succ] at h3
                have hz : (w.alloc (.cells #[.slice none 0 0] 33)).heap.size = w.heap.size + 1 := by simp
                exact ⟨k + 1, A', c', by omega, by go_num, by rw [← hxl], h3, HB.out.keep (HR2.out.mono (by rw [hz] at zb ⊢; exact zb)) HG7.out.2.2.2⟩
              case measure => simp [intOf]; omega
            · have hkN : 4 = k := by omega
              subst hkN
              have t1 : decide ((4 : Int) < 4) = false := by simp
              obtain ⟨q0, q1, q2⟩ := hb.at
              have HF : Hid (∀ y, Below w.heap.size w (wr.setCell ⟨w.heap.size, 0, none⟩ y) ∧ RB w.heap.size (wr.setCell ⟨w.heap.size, 0, none⟩ y) A (rowsJ s0 4)) := Lib.hid (fun y => ⟨hb.out y, (HR.out.out (Nat.lt_succ_self _) _ y).low (Nat.le_succ _)⟩)
              clear hb HR HB
              go_wp2
              refine bodyPost_ret (v := .agg #[.slice A 4 c]) (by simp [*, results, Try.results10, go_sem] <;> rfl) rfl ?_
              obtain ⟨e1, e2⟩ := HF.out (.slice A 4 c)
              refine ⟨A, c, by rw [HNM.out.1], ?_, e1⟩
              have e3 : s0.rows = rowsJ s0 4 := by unfold Sk.rows rowsJ; rw [HNM.out.1]
              rw [e3]
              exact e2
        · obtain ⟨N, rfl⟩ := Int.eq_ofNat_of_zero_le (show 0 ≤ rows by omega)
          have HNM : Hid ((Sk.new (N : Int) (M : Int)).n = N ∧ (Sk.new (N : Int) (M : Int)).m = M ∧ ∀ i, (Sk.new (N : Int) (M : Int)).row i = List.replicate M 0) := Lib.hid ⟨by simp only [Sk.new]; omega, by simp only [Sk.new]; omega, fun i => new_row _ _ i _ (by simp only [Sk.new]; omega)⟩
          generalize Sk.new (N : Int) (M : Int) = s0 at HNM ⊢
          go_enter Try.func10, Try.ntmps10
          go_wp2_with fail
          go_loopw [5, 6] (fun x n wr => ∃ (k : Nat) (A : Option Addr) (c : Nat), k ≤ N ∧ n = .int .i64 k ∧ x = .slice A k c ∧ RoR (w.heap.size + 1) wr (rowsJ s0 k) A c ∧ SBx (w.alloc (.cells #[.slice none 0 0] 33)) w.heap.size wr) (fun _ n _ => N - (intOf n).toNat)
          case atStart => exact ⟨0, none, 0, Nat.zero_le _, rfl, rfl, RoR.nil _ _, hp_new rfl, by simpa using Below.refl _ _⟩
          case round =>
            obtain ⟨k, A, c, hk, rfl, rfl, hr, hb⟩ := hrel
            have HR := Lib.hid hr
            have HB := Lib.hid hb
            clear hr
            by_cases hlt : k < N
            · have t1 : decide ((k : Int) < (N : Int)) = true := by simp; omega
              have k1 : (k : Int) < (N : Int) := by omega
              have hr2 : Below wr.heap.size wr ((wr.alloc (.cells (madeCells #[.int .i64 0] M) 3)).alloc (.cells #[.slice (some ⟨wr.heap.size, 0, none⟩) M M] 56)) := by go_grown
              obtain ⟨xs, hxl, hxo⟩ := (HR.out.keep hr2).own
              rw [rowsJ_len] at hxl hxo
              have HXO := Lib.hid hxo
              have HR2 := Lib.hid hr2
              have zb := hb.2.size
              clear hxo hb hr2
              go_wp2_with (
                at_builtin
                refine Kd.wpList_one KR_ty rfl (.tmp 14) (.tmp 19) rfl (w.heap.size + 1) _ k _ hxl (by rfl) HXO.out (wr.heap.size + 1) ⟨some ⟨wr.heap.size, 0, none⟩, M, M⟩ (by rfl) (hp_new (by simp)) (by omega) (by simp at zb ⊢; omega) ?_
                intro A' c' w7 hG
                have HG7 := Lib.hid hG
                clear hG
                )
              go_roundw
              case rel =>
                have ho2 : ((wr.alloc (.cells (madeCells #[.int .i64 0] M) 3)).alloc (.cells #[.slice (some ⟨wr.heap.size, 0, none⟩) M M] 56)).ownsRow (w.heap.size + 1) 3 1 (.slice (some ⟨wr.heap.size, 0, none⟩) (s0.row k).length M) (s0.row k).length (KN.row (s0.row k)) := by
                  rw [HNM.out.2.2 k, List.length_replicate, kn_zero]
                  exact World.ownsRow.alloc (own_made (hp_new rfl) (by omega) (by simp at zb; omega)) _
                have h3 := RoR.snoc (A2 := some ⟨wr.heap.size, 0, none⟩) (c2 := M) (l := s0.row k) (HR.out.keep HR2.out) (by rw [rowsJ_len]; exact HXO.out) (Below.refl _ _) ho2 (A' := A') (c' := c') (w' := w7) (by rw [rowsJ_len, show (s0.row k).length = M from by rw [HNM.out.2.2 k, List.length_replicate]]; exact HG7.out)
                rw [← rowsJ_succ] at h3
                have hz : (w.alloc (.cells #[.slice none 0 0] 33)).heap.size = w.heap.size + 1 := by simp
                exact ⟨k + 1, A', c', by omega, by go_num, by rw [← hxl], h3, HB.out.keep (HR2.out.mono (by rw [hz] at zb ⊢; exact zb)) HG7.out.2.2.2⟩
              case measure => simp [intOf]; omega
            · have hkN : N = k := by omega
              subst hkN
              have t1 : decide (((N : Int) : Int) < (N : Int)) = false := by simp
              obtain ⟨q0, q1, q2⟩ := hb.at
              have HF : Hid (∀ y, Below w.heap.size w (wr.setCell ⟨w.heap.size, 0, none⟩ y) ∧ RB w.heap.size (wr.setCell ⟨w.heap.size, 0, none⟩ y) A (rowsJ s0 N)) := Lib.hid (fun y => ⟨hb.out y, (HR.out.out (Nat.lt_succ_self _) _ y).low (Nat.le_succ _)⟩)
              clear hb HR HB
              go_wp2
              refine bodyPost_ret (v := .agg #[.slice A N c]) (by simp [*, results, Try.results10, go_sem] <;> rfl) rfl ?_
              obtain ⟨e1, e2⟩ := HF.out (.slice A N c)
              refine ⟨A, c, by rw [HNM.out.1], ?_, e1⟩
              have e3 : s0.rows = rowsJ s0 N := by unfold Sk.rows rowsJ; rw [HNM.out.1]
              rw [e3]
              exact e2
      · have h3 : rows ≤ 4 := by omega
        have HNM : Hid ((Sk.new rows (M : Int)).n = 1 ∧ (Sk.new rows (M : Int)).m = M ∧ ∀ i, (Sk.new rows (M : Int)).row i = List.replicate M 0) := Lib.hid ⟨by simp only [Sk.new]; omega, by simp only [Sk.new]; omega, fun i => new_row _ _ i _ (by simp only [Sk.new]; omega)⟩
        generalize Sk.new rows (M : Int) = s0 at HNM ⊢
        go_enter Try.func10, Try.ntmps10
        go_wp2_with fail
        go_loopw [5, 6] (fun x n wr => ∃ (k : Nat) (A : Option Addr) (c : Nat), k ≤ 1 ∧ n = .int .i64 k ∧ x = .slice A k c ∧ RoR (w.heap.size + 1) wr (rowsJ s0 k) A c ∧ SBx (w.alloc (.cells #[.slice none 0 0] 33)) w.heap.size wr) (fun _ n _ => 1 - (intOf n).toNat)
        case atStart => exact ⟨0, none, 0, Nat.zero_le _, rfl, rfl, RoR.nil _ _, hp_new rfl, by simpa using Below.refl _ _⟩
        case round =>
          obtain ⟨k, A, c, hk, rfl, rfl, hr, hb⟩ := hrel
          have HR := Lib.hid hr
          have HB := Lib.hid hb
          clear hr
          by_cases hlt : k < 1
          · have t1 : decide ((k : Int) < 1) = true := by simp; omega
            have k1 : (k : Int) < 1 := by omega
            have hr2 : Below wr.heap.size wr ((wr.alloc (.cells (madeCells #[.int .i64 0] M) 3)).alloc (.cells #[.slice (some ⟨wr.heap.size, 0, none⟩) M M] 56)) := by go_grown
            obtain ⟨xs, hxl, hxo⟩ := (HR.out.keep hr2).own
            rw [rowsJ_len] at hxl hxo
            have HXO := Lib.hid hxo
            have HR2 := Lib.hid hr2
            have zb := hb.2.size
            clear hxo hb hr2
            go_wp2_with (
              at_builtin
              refine Kd.wpList_one KR_ty rfl (.tmp 14) (.tmp 19) rfl (w.heap.size + 1) _ k _ hxl (by rfl) HXO.out (wr.heap.size + 1) ⟨some ⟨wr.heap.size, 0, none⟩, M, M⟩ (by rfl) (hp_new (by simp)) (by omega) (by simp at zb ⊢; omega) ?_
              intro A' c' w7 hG
              have HG7 := Lib.hid hG
              clear hG
              )
            go_roundw
            case rel =>
              have ho2 : ((wr.alloc (.cells (madeCells #[.int .i64 0] M) 3)).alloc (.cells #[.slice (some ⟨wr.heap.size, 0, none⟩) M M] 56)).ownsRow (w.heap.size + 1) 3 1 (.slice (some ⟨wr.heap.size, 0, none⟩) (s0.row k).length M) (s0.row k).length (KN.row (s0.row k)) := by
                rw [HNM.out.2.2 k, List.length_replicate, kn_zero]
                exact World.ownsRow.alloc (own_made (hp_new rfl) (by omega) (by simp at zb; omega)) _
              have h3 := RoR.snoc (A2 := some ⟨wr.heap.size, 0, none⟩) (c2 := M) (l := s0.row k) (HR.out.keep HR2.out) (by rw [rowsJ_len]; exact HXO.out) (Below.refl _ _) ho2 (A' := A') (c' := c') (w' := w7) (by rw [rowsJ_len, show (s0.row k).length = M from by rw [HNM.out.2.2 k, List.length_replicate]]; exact HG7.out)
              rw [← rowsJ_succ] at h3
              have hz : (w.alloc (.cells #[.slice none 0 0] 33)).heap.size = w.heap.size + 1 := by simp
              exact ⟨k + 1, A', c', by omega, by go_num, by rw [← hxl], h3, HB.out.keep (HR2.out.mono (by rw [hz] at zb ⊢; exact zb)) HG7.out.2.2.2⟩
            case measure => simp [intOf]; omega
          · have hkN : 1 = k := by omega
            subst hkN
            have t1 : decide ((1 : Int) < 1) = false := by simp
            obtain ⟨q0, q1, q2⟩ := hb.at
            have HF : Hid (∀ y, Below w.heap.size w (wr.setCell ⟨w.heap.size, 0, none⟩ y) ∧ RB w.heap.size (wr.setCell ⟨w.heap.size, 0, none⟩ y) A (rowsJ s0 1)) := Lib.hid (fun y => ⟨hb.out y, (HR.out.out (Nat.lt_succ_self _) _ y).low (Nat.le_succ _)⟩)
            clear hb HR HB
            go_wp2
            refine bodyPost_ret (v := .agg #[.slice A 1 c]) (by simp [*, results, Try.results10, go_sem] <;> rfl) rfl ?_
            obtain ⟨e1, e2⟩ := HF.out (.slice A 1 c)
            refine ⟨A, c, by rw [HNM.out.1], ?_, e1⟩
            have e3 : s0.rows = rowsJ s0 1 := by unfold Sk.rows rowsJ; rw [HNM.out.1]
            rw [e3]
            exact e2
  · have h5 : width ≤ 256 := by omega
    have m2 : ∀ W : World, (Instr.makeSlice 56 (.int .i64 1) (.int .i64 1)).run Try.prog W = .ok (.slice (some ⟨W.heap.size, 0, none⟩) 1 1) (W.alloc (.cells (madeCells #[.int .i64 0] 1) 3)) := mk8 1 (by omega)
    clear mk8
    rcases Int.lt_or_le 1 rows with h1 | h1
    · rcases Int.lt_or_le 4 rows with h3 | h3
      · have HNM : Hid ((Sk.new rows width).n = 4 ∧ (Sk.new rows width).m = 1 ∧ ∀ i, (Sk.new rows width).row i = List.replicate 1 0) := Lib.hid ⟨by simp only [Sk.new]; omega, by simp only [Sk.new]; omega, fun i => new_row _ _ i _ (by simp only [Sk.new]; omega)⟩
        generalize Sk.new rows width = s0 at HNM ⊢
        go_enter Try.func10, Try.ntmps10
        go_wp2_with fail
        go_loopw [5, 6] (fun x n wr => ∃ (k : Nat) (A : Option Addr) (c : Nat), k ≤ 4 ∧ n = .int .i64 k ∧ x = .slice A k c ∧ RoR (w.heap.size + 1) wr (rowsJ s0 k) A c ∧ SBx (w.alloc (.cells #[.slice none 0 0] 33)) w.heap.size wr) (fun _ n _ => 4 - (intOf n).toNat)
        case atStart => exact ⟨0, none, 0, Nat.zero_le _, rfl, rfl, RoR.nil _ _, hp_new rfl, by simpa using Below.refl _ _⟩
        case round =>
          obtain ⟨k, A, c, hk, rfl, rfl, hr, hb⟩ := hrel
          have HR := Lib.hid hr
          have HB := Lib.hid hb
          clear hr
          by_cases hlt : k < 4
          · have t1 : decide ((k : Int) < 4) = true := by simp; omega
            have k1 : (k : Int) < 4 := by omega
            have hr2 : Below wr.heap.size wr ((wr.alloc (.cells (madeCells #[.int .i64 0] 1) 3)).alloc (.cells #[.slice (some ⟨wr.heap.size, 0, none⟩) 1 1] 56)) := by go_grown
            obtain ⟨xs, hxl, hxo⟩ := (HR.out.keep hr2).own
            rw [rowsJ_len] at hxl hxo
            have HXO := Lib.hid hxo
            have HR2 := Lib.hid hr2
            have zb := hb.2.size
            clear hxo hb hr2
            go_wp2_with (
              at_builtin
              refine Kd.wpList_one KR_ty rfl (.tmp 14) (.tmp 19) rfl (w.heap.size + 1) _ k _ hxl (by rfl) HXO.out (wr.heap.size + 1) ⟨some ⟨wr.heap.size, 0, none⟩, 1, 1⟩ (by rfl) (hp_new (by simp)) (by omega) (by simp at zb ⊢; omega) ?_
              intro A' c' w7 hG
              have HG7 := Lib.hid hG
              clear hG
              )
            go_roundw
            case rel =>
              have ho2 : ((wr.alloc (.cells (madeCells #[.int .i64 0] 1) 3)).alloc (.cells #[.slice (some ⟨wr.heap.size, 0, none⟩) 1 1] 56)).ownsRow (w.heap.size + 1) 3 1 (.slice (some ⟨wr.heap.size, 0, none⟩) (s0.row k).length 1) (s0.row k).length (KN.row (s0.row k)) := by
                rw [HNM.out.2.2 k, List.length_replicate, kn_zero]
                exact World.ownsRow.alloc (own_made (hp_new rfl) (by omega) (by simp at zb; omega)) _
              have h3 := RoR.snoc (A2 := some ⟨wr.heap.size, 0, none⟩) (c2 := 1) (l := s0.row k) (HR.out.keep HR2.out) (by rw [rowsJ_len]; exact HXO.out) (Below.refl _ _) ho2 (A' := A') (c' := c') (w' := w7) (by rw [rowsJ_len, show (s0.row k).length = 1 from by rw [HNM.out.2.2 k, List.length_replicate]]; exact HG7.out)
              rw [← rowsJ_succ] at h3
              have hz : (w.alloc (.cells #[.slice none 0 0] 33)).heap.size = w.heap.size + 1 := by simp
              exact ⟨k + 1, A', c', by omega, by go_num, by rw [← hxl], h3, HB.out.keep (HR2.out.mono (by rw [hz] at zb ⊢; exact zb)) HG7.out.2.2.2⟩
            case measure => simp [intOf]; omega
          · have hkN : 4 = k := by omega
            subst hkN
            have t1 : decide ((4 : Int) < 4) = false := by simp
            obtain ⟨q0, q1, q2⟩ := hb.at
            have HF : Hid (∀ y, Below w.heap.size w (wr.setCell ⟨w.heap.size, 0, none⟩ y) ∧ RB w.heap.size (wr.setCell ⟨w.heap.size, 0, none⟩ y) A (rowsJ s0 4)) := Lib.hid (fun y => ⟨hb.out y, (HR.out.out (Nat.lt_succ_self _) _ y).low (Nat.le_succ _)⟩)
            clear hb HR HB
            go_wp2
            refine bodyPost_ret (v := .agg #[.slice A 4 c]) (by simp [*, results, Try.results10, go_sem] <;> rfl) rfl ?_
            obtain ⟨e1, e2⟩ := HF.out (.slice A 4 c)
            refine ⟨A, c, by rw [HNM.out.1], ?_, e1⟩
            have e3 : s0.rows = rowsJ s0 4 := by unfold Sk.rows rowsJ; rw [HNM.out.1]
            rw [e3]
            exact e2
      · obtain ⟨N, rfl⟩ := Int.eq_ofNat_of_zero_le (show 0 ≤ rows by omega)
        have HNM : Hid ((Sk.new (N : Int) width).n = N ∧ (Sk.new (N : Int) width).m = 1 ∧ ∀ i, (Sk.new (N : Int) width).row i = List.replicate 1 0) := Lib.hid ⟨by simp only [Sk.new]; omega, by simp only [Sk.new]; omega, fun i => new_row _ _ i _ (by simp only [Sk.new]; omega)⟩
        generalize Sk.new (N : Int) width = s0 at HNM ⊢
        go_enter Try.func10, Try.ntmps10
        go_wp2_with fail
        go_loopw [5, 6] (fun x n wr => ∃ (k : Nat) (A : Option Addr) (c : Nat), k ≤ N ∧ n = .int .i64 k ∧ x = .slice A k c ∧ RoR (w.heap.size + 1) wr (rowsJ s0 k) A c ∧ SBx (w.alloc (.cells #[.slice none 0 0] 33)) w.heap.size wr) (fun _ n _ => N - (intOf n).toNat)
        case atStart => exact ⟨0, none, 0, Nat.zero_le _, rfl, rfl, RoR.nil _ _, hp_new rfl, by simpa using Below.refl _ _⟩
        case round =>
          obtain ⟨k, A, c, hk, rfl, rfl, hr, hb⟩ := hrel
          have HR := Lib.hid hr
          have HB := Lib.hid hb
          clear hr
          by_cases hlt : k < N
          · have t1 : decide ((k : Int) < (N : Int)) = true := by simp; omega
            have k1 : (k : Int) < (N : Int) := by omega
            have hr2 : Below wr.heap.size wr ((wr.alloc (.cells (madeCells #[.int .i64 0] 1) 3)).alloc (.cells #[.slice (some ⟨wr.heap.size, 0, none⟩) 1 1] 56)) := by go_grown
            obtain ⟨xs, hxl, hxo⟩ := (HR.out.keep hr2).own
            rw [rowsJ_len] at hxl hxo
            have HXO := Lib.hid hxo
            have HR2 := Lib.hid hr2
            have zb := hb.2.size
            clear hxo hb hr2
            go_wp2_with (
              at_builtin
              refine Kd.wpList_one KR_ty rfl (.tmp 14) (.tmp 19) rfl (w.heap.size + 1) _ k _ hxl (by rfl) HXO.out (wr.heap.size + 1) ⟨some ⟨wr.heap.size, 0, none⟩, 1, 1⟩ (by rfl) (hp_new (by simp)) (by omega) (by simp at zb ⊢; omega) ?_
              intro A' c' w7 hG
              have HG7 := Lib.hid hG
              clear hG
              )
            go_roundw
            case rel =>
              have ho2 : ((wr.alloc (.cells (madeCells #[.int .i64 0] 1) 3)).alloc (.cells #[.slice (some ⟨wr.heap.size, 0, none⟩) 1 1] 56)).ownsRow (w.heap.size + 1) 3 1 (.slice (some ⟨wr.heap.size, 0, none⟩) (s0.row k).length 1) (s0.row k).length (KN.row (s0.row k)) := by
                rw [HNM.out.2.2 k, List.length_replicate, kn_zero]
                exact World.ownsRow.alloc (own_made (hp_new rfl) (by omega) (by simp at zb; omega)) _
              have h3 := RoR.snoc (A2 := some ⟨wr.heap.size, 0, none⟩) (c2 := 1) (l := s0.row k) (HR.out.keep HR2.out) (by rw [rowsJ_len]; exact HXO.out) (Below.refl _ _) ho2 (A' := A') (c' := c') (w' := w7) (by rw [rowsJ_len, show (s0.row k).length = 1 from by rw [HNM.out.2.2 k, List.length_replicate]]; exact HG7.out)
              rw [← rowsJ_succ] at h3
              have hz : (w.alloc (.cells #[.slice none 0 0] 33)).heap.size = w.heap.size + 1 := by simp
              exact ⟨k + 1, A', c', by omega, by go_num, by rw [← hxl], h3, HB.out.keep (HR2.out.mono (by rw [hz] at zb ⊢; exact zb)) HG7.out.2.2.2⟩
            case measure => simp [intOf]; omega
          · have hkN : N = k := by omega
            subst hkN
            have t1 : decide (((N : Int) : Int) < (N : Int)) = false := by simp
            obtain ⟨q0, q1, q2⟩ := hb.at
            have HF : Hid (∀ y, Below w.heap.size w (wr.setCell ⟨w.heap.size, 0, none⟩ y) ∧ RB w.heap.size (wr.setCell ⟨w.heap.size, 0, none⟩ y) A (rowsJ s0 N)) := Lib.hid (fun y => ⟨hb.out y, (HR.out.out (Nat.lt_succ_self _) _ y).low (Nat.le_succ _)⟩)
            clear hb HR HB
            go_wp2
            refine bodyPost_ret (v := .agg #[.slice A N c]) (by simp [*, results, Try.results10, go_sem] <;> rfl) rfl ?_
            obtain ⟨e1, e2⟩ := HF.out (.slice A N c)
            refine ⟨A, c, by rw [HNM.out.1], ?_, e1⟩
            have e3 : s0.rows = rowsJ s0 N := by unfold Sk.rows rowsJ; rw [HNM.out.1]
            rw [e3]
            exact e2
    · have h3 : rows ≤ 4 := by omega
      have HNM : Hid ((Sk.new rows width).n = 1 ∧ (Sk.new rows width).m = 1 ∧ ∀ i, (Sk.new rows width).row i = List.replicate 1 0) := Lib.hid ⟨by simp only [Sk.new]; omega, by simp only [Sk.new]; omega, fun i => new_row _ _ i _ (by simp only [Sk.new]; omega)⟩
      generalize Sk.new rows width = s0 at HNM ⊢
      go_enter Try.func10, Try.ntmps10
      go_wp2_with fail
      go_loopw [5, 6] (fun x n wr => ∃ (k : Nat) (A : Option Addr) (c : Nat), k ≤ 1 ∧ n = .int .i64 k ∧ x = .slice A k c ∧ RoR (w.heap.size + 1) wr (rowsJ s0 k) A c ∧ SBx (w.alloc (.cells #[.slice none 0 0] 33)) w.heap.size wr) (fun _ n _ => 1 - (intOf n).toNat)
      case atStart => exact ⟨0, none, 0, Nat.zero_le _, rfl, rfl, RoR.nil _ _, hp_new rfl, by simpa using Below.refl _ _⟩
      case round =>
        obtain ⟨k, A, c, hk, rfl, rfl, hr, hb⟩ := hrel
        have HR := Lib.hid hr
        have HB := Lib.hid hb
        clear hr
        by_cases hlt : k < 1
        · have t1 : decide ((k : Int) < 1) = true := by simp; omega
          have k1 : (k : Int) < 1 := by omega
          have hr2 : Below wr.heap.size wr ((wr.alloc (.cells (madeCells #[.int .i64 0] 1) 3)).alloc (.cells #[.slice (some ⟨wr.heap.size, 0, none⟩) 1 1] 56)) := by go_grown
          obtain ⟨xs, hxl, hxo⟩ := (HR.out.keep hr2).own
          rw [rowsJ_len] at hxl hxo
          have HXO := Lib.hid hxo
          have HR2 := Lib.hid hr2
          have zb := hb.2.size
          clear hxo hb hr2
          go_wp2_with (
            at_builtin
            refine Kd.wpList_one KR_ty rfl (.tmp 14) (.tmp 19) rfl (w.heap.size + 1) _ k _ hxl (by rfl) HXO.out (wr.heap.size + 1) ⟨some ⟨wr.heap.size, 0, none⟩, 1, 1⟩ (by rfl) (hp_new (by simp)) (by omega) (by simp at zb ⊢; omega) ?_
            intro A' c' w7 hG
            have HG7 := Lib.hid hG
            clear hG
            )
          go_roundw
          case rel =>
            have ho2 : ((wr.alloc (.cells (madeCells #[.int .i64 0] 1) 3)).alloc (.cells #[.slice (some ⟨wr.heap.size, 0, none⟩) 1 1] 56)).ownsRow (w.heap.size + 1) 3 1 (.slice (some ⟨wr.heap.size, 0, none⟩) (s0.row k).length 1) (s0.row k).length (KN.row (s0.row k)) := by
              rw [HNM.out.2.2 k, List.length_replicate, kn_zero]
              exact World.ownsRow.alloc (own_made (hp_new rfl) (by omega) (by simp at zb; omega)) _
            have h3 := RoR.snoc (A2 := some ⟨wr.heap.size, 0, none⟩) (c2 := 1) (l := s0.row k) (HR.out.keep HR2.out) (by rw [rowsJ_len]; exact HXO.out) (Below.refl _ _) ho2 (A' := A') (c' := c') (w' := w7) (by rw [rowsJ_len, show (s0.row k).length = 1 from by rw [HNM.out.2.2 k, List.length_replicate]]; exact HG7.out)
            rw [← rowsJ_succ] at h3
            have hz : (w.alloc (.cells #[.slice none 0 0] 33)).heap.size = w.heap.size + 1 := by simp
            exact ⟨k + 1, A', c', by omega, by go_num, by rw [← hxl], h3, HB.out.keep (HR2.out.mono (by rw [hz] at zb ⊢; exact zb)) HG7.out.2.2.2⟩
          case measure => simp [intOf]; omega
        · have hkN : 1 = k := by omega
          subst hkN
          have t1 : decide ((1 : Int) < 1) = false := by simp
          obtain ⟨q0, q1, q2⟩ := hb.at
          have HF : Hid (∀ y, Below w.heap.size w (wr.setCell ⟨w.heap.size, 0, none⟩ y) ∧ RB w.heap.size (wr.setCell ⟨w.heap.size, 0, none⟩ y) A (rowsJ s0 1)) := Lib.hid (fun y => ⟨hb.out y, (HR.out.out (Nat.lt_succ_self _) _ y).low (Nat.le_succ _)⟩)
          clear hb HR HB
          go_wp2
          refine bodyPost_ret (v := .agg #[.slice A 1 c]) (by simp [*, results, Try.results10, go_sem] <;> rfl) rfl ?_
          obtain ⟨e1, e2⟩ := HF.out (.slice A 1 c)
          refine ⟨A, c, by rw [HNM.out.1], ?_, e1⟩
          have e3 : s0.rows = rowsJ s0 1 := by unfold Sk.rows rowsJ; rw [HNM.out.1]
          rw [e3]
          exact e2

end Go.Proofs.Ytpigdjlanabacaa

namespace Go.Proofs.Ytpigdjlanabacaa
open Go.RowKit
set_option maxRecDepth 100000

/-- The document's sketch in a box, a prefix in a box. -/
structure Rf (wr : World) (b bp : Nat) (A : Option Addr) (c : Nat) (s : Sk) (p : Pf) : Prop where
  hs : wr.heap[b]? = some (.cells #[.slice A s.n c] 33 (0, 0))
  hp : PB wr bp p
  hr : RR KN wr A s.rows
theorem Rf.keep {w wr : World} {b bp : Nat} {A : Option Addr} {c : Nat} {s : Sk} {p : Pf} (h : Rf w b bp A c s p) (hb : Below w.heap.size w wr) : Rf wr b bp A c s p :=
  ⟨(hb.block _ (lt_of_block h.hs)).trans h.hs, h.hp.keep hb, h.hr.keep hb⟩
theorem Rf.sb {wr : World} {b bp : Nat} {A : Option Addr} {c : Nat} {s : Sk} {p : Pf} (h : Rf wr b bp A c s p) : b < wr.heap.size ∧ wr.cell? ⟨b, 0, none⟩ = some (.slice A s.n c) :=
  ⟨lt_of_block h.hs, by rw [cell_row h.hs]; rfl⟩
theorem rr_row {w : World} {A : Option Addr} {s : Sk} (h : RR KN w A s.rows) {i : Nat} (hi : i < s.n) : ∃ g off A' c', A = some ⟨g, off, none⟩ ∧ g < w.heap.size ∧ w.cell? ⟨g, off + i, none⟩ = some (.slice A' s.m c') ∧ KN.Rd w A' (s.row i) := by
  obtain ⟨g, off, A', c', e, hg, hc, hr⟩ := h.at (k := i) (by rw [Sk.rows_len]; exact hi)
  rw [Sk.rows_at] at hc hr
  rw [Sk.row_len] at hc
  exact ⟨g, off, A', c', e, hg, hc, hr⟩
theorem rr_cnt {w : World} {A : Option Addr} {s : Sk} {i : Nat} (h : KN.Rd w A (s.row i)) {k : Nat} (hk : k < s.m) : ∃ g off, A = some ⟨g, off, none⟩ ∧ g < w.heap.size ∧ w.cell? ⟨g, off + k, none⟩ = some (.int .i64 (s.C i k : Int)) := by
  obtain ⟨g, off, e, hg, hc⟩ := Kd.rd1 (K := KN) rfl h (k := k) (by rw [Sk.row_len]; exact hk)
  refine ⟨g, off, e, hg, ?_⟩
  rw [hc, Sk.row_at]
  rfl
set_option maxHeartbeats 2000000 in
theorem rat_any (w : World) (A : Option Addr) (c : Nat) (s : Sk) (p : Pf) (h : RR KN w A s.rows) (hk : s.Ok) (i : Nat) (hi : i < s.n) : Calls Try.prog 24 #[.agg #[.slice A s.n c], .int .i64 (i : Int), .agg #[.int .u64 (u p.a.hi), .int .u64 (u p.a.lo), .bool p.a.v6, .int .i64 p.n]] w fun e w' => e = .returned (.int .i64 (kpl s.m i p : Int)) ∧ Below w.heap.size w w' := by
  have HR := Lib.hid h
  have n4 := hk.n
  have m0 := hk.m0
  have m1 := hk.m
  clear h hk
  go_enter Try.func24, Try.ntmps24
  go_wp2_with fail
  have hB : Below w.heap.size w ((w.alloc (.cells #[.slice A s.n c] 33)).alloc (.cells #[.int .u64 (u p.a.hi), .int .u64 (u p.a.lo), .bool p.a.v6, .int .i64 p.n] 27)) := by go_grown
  have HF : Hid (Rf ((w.alloc (.cells #[.slice A s.n c] 33)).alloc (.cells #[.int .u64 (u p.a.hi), .int .u64 (u p.a.lo), .bool p.a.v6, .int .i64 p.n] 27)) w.heap.size (w.heap.size + 1) A c s p) := Lib.hid ⟨hp_old (by simp) (hp_new rfl), hp_new (by simp), HR.out.keep hB⟩
  generalize World.alloc (World.alloc _ _) _ = W at hB HF ⊢
  obtain ⟨g, off, A', c', rfl, zg, r0, -⟩ := rr_row HF.out.hr hi
  have R0 := fun x : Later W.heap.size W => (x.cell (p := ⟨g, off + i, none⟩) zg).trans r0
  obtain ⟨zp, p0, p1, p2, p3⟩ := HF.out.hp.at
  obtain ⟨zs, s0⟩ := HF.out.sb
  have P0 := fun x : Later W.heap.size W => (x.cell (p := ⟨(w.heap.size + 1), 0, none⟩) zp).trans p0
  have P1 := fun x : Later W.heap.size W => (x.cell (p := ⟨(w.heap.size + 1), 1, none⟩) zp).trans p1
  have P2 := fun x : Later W.heap.size W => (x.cell (p := ⟨(w.heap.size + 1), 2, none⟩) zp).trans p2
  have P3 := fun x : Later W.heap.size W => (x.cell (p := ⟨(w.heap.size + 1), 3, none⟩) zp).trans p3
  have S0 := fun x : Later W.heap.size W => (x.cell (p := ⟨w.heap.size, 0, none⟩) zs).trans s0
  clear zp p0 p1 p2 p3 zs s0
  obtain ⟨h0, h1⟩ := hsh_bd (i : Int) p
  have hm : IntKind.u64.wrap (s.m : Int) = (s.m : Int) := by rw [IntKind.wrap_u64]; omega
  have hr := kpl_is s.m i p (by omega)
  have hq := kpl_lt s.m i p (by omega)
  have hw : IntKind.i64.wrap (kpl s.m i p : Int) = (kpl s.m i p : Int) := by rw [IntKind.wrap_i64]; omega
  have hz : ((s.m : Int) == 0) = false := by simp; omega
  have i1 : (i : Int) < (s.n : Int) := by omega
  have HC := Lib.hid (fun x : Later W.heap.size W => rhash_any (i : Int) p x.at)
  clear zg r0 HR
  refine region_later W.heap.size (by kernel_rfl) (by kernel_rfl) ?_
  repeat (go_big_quiet_step ((go_at_call 20; with_reducible exact later_of (Nat.le_refl _) (HC.out _))))
  refine wpQuiet_nil ?_
  intro x
  have hx := x.below
  clear P0 P1 P2 P3 S0 R0
  generalize x.at = w2 at *
  clear x
  go_wp2
  go_ret
  exact ⟨rfl, hB.trans (hx.mono hB.size)⟩

def mn255 (f : Nat → Nat) (k : Nat) : Nat := if k = 0 then 255 else mnN f k
theorem mn255_succ {f : Nat → Nat} (h : ∀ i, f i ≤ 255) (k : Nat) : mn255 f (k + 1) = min (mn255 f k) (f k) := by
  unfold mn255
  rw [if_neg (by omega)]
  by_cases hk : k = 0
  · subst hk
    have := h 0
    simp only [if_true, mnN]
    omega
  · rw [if_neg hk]
    rfl
theorem mn255_bd {f : Nat → Nat} (h : ∀ i, f i ≤ 255) (k : Nat) : mn255 f k ≤ 255 := by
  unfold mn255
  split
  · omega
  · exact mnN_bd h k
set_option maxHeartbeats 2000000 in
theorem rcount_any (w : World) (A : Option Addr) (c : Nat) (s : Sk) (p : Pf) (h : RR KN w A s.rows) (hk : s.Ok) : Calls Try.prog 16 #[.agg #[.slice A s.n c], .agg #[.int .u64 (u p.a.hi), .int .u64 (u p.a.lo), .bool p.a.v6, .int .i64 p.n]] w fun e w' => e = .returned (.int .i64 (s.cnt p : Int)) ∧ Below w.heap.size w w' := by
  have HR := Lib.hid h
  have HK := Lib.hid hk
  have n4 := hk.n
  have m0 := hk.m0
  have m1 := hk.m
  have HN0 := Lib.hid (fun h : s.does p = false => cnt_no h)
  have HN1 := Lib.hid (fun h : s.does p = true => cnt_yes h)
  generalize s.cnt p = q at HN0 HN1 ⊢
  clear h hk
  go_enter Try.func16, Try.ntmps16
  go_wp2_with fail
  have hB : Below w.heap.size w ((w.alloc (.cells #[.slice A s.n c] 33)).alloc (.cells #[.int .u64 (u p.a.hi), .int .u64 (u p.a.lo), .bool p.a.v6, .int .i64 p.n] 27)) := by go_grown
  have HF0 : Hid (Rf ((w.alloc (.cells #[.slice A s.n c] 33)).alloc (.cells #[.int .u64 (u p.a.hi), .int .u64 (u p.a.lo), .bool p.a.v6, .int .i64 p.n] 27)) w.heap.size (w.heap.size + 1) A c s p) := Lib.hid ⟨hp_old (by simp) (hp_new rfl), hp_new (by simp), HR.out.keep hB⟩
  generalize World.alloc (World.alloc _ _) _ = W at hB HF0 ⊢
  refine (rpsane_any p _).mono ?_
  rintro e w1 ⟨rfl, b1⟩
  have HF := Lib.hid (HF0.out.keep b1)
  have HB1 := Lib.hid (hB.trans (b1.mono hB.size))
  obtain ⟨zs, s0⟩ := HF.out.sb
  clear b1 HF0 hB HR
  cases hs : psane p
  · have e0 := HN0.out (by unfold Sk.does; rw [hs]; rfl)
    subst e0
    clear hs
    go_wp2
    go_ret
    exact ⟨rfl, HB1.out⟩
  · by_cases hn : s.n = 0
    · have e0 := HN0.out (by unfold Sk.does; rw [hs, hn]; rfl)
      subst e0
      rw [hn] at s0
      clear hs hn
      go_wp2
      go_ret
      exact ⟨rfl, HB1.out⟩
    · have e0 := HN1.out (by unfold Sk.does; rw [hs]; simp; omega)
      have HE : Hid (q = mn255 (fun i => s.C i (kpl s.m i p)) s.n) := Lib.hid (by rw [e0]; unfold mn255; rw [if_neg hn])
      have hz : ((s.n : Int) == 0) = false := by simp; omega
      have HM0 := Lib.hid (fun k => mn255_succ (f := fun i => s.C i (kpl s.m i p)) (fun i => HK.out.C i _) k)
      have HMb := Lib.hid (fun k => mn255_bd (f := fun i => s.C i (kpl s.m i p)) (fun i => HK.out.C i _) k)
      have HMz : Hid (mn255 (fun i => s.C i (kpl s.m i p)) 0 = 255) := Lib.hid rfl
      generalize mn255 (fun i => s.C i (kpl s.m i p)) = F at HE HM0 HMb HMz
      clear e0 hs hn HN0 HN1
      go_wp2_with fail
      clear s0
      go_loopw [5, 6] (fun x i wr => ∃ k : Nat, k ≤ s.n ∧ i = .int .i64 k ∧ x = .int .i64 (F k : Int) ∧ Below w1.heap.size w1 wr) (fun _ i _ => s.n - (intOf i).toNat)
      case atStart => exact ⟨0, Nat.zero_le _, rfl, by rw [HMz.out]; rfl, Below.refl _ _⟩
      case round =>
        obtain ⟨k, hkn, rfl, rfl, hb⟩ := hrel
        have HB := Lib.hid hb
        have HFr := Lib.hid (HF.out.keep hb)
        obtain ⟨zs, s0⟩ := HFr.out.sb
        clear hb
        by_cases hlt : k < s.n
        · have t1 : decide ((k : Int) < (s.n : Int)) = true := by simp; omega
          have k1 : (k : Int) < (s.n : Int) := by omega
          obtain ⟨g, off, A', c', rfl, zg, r0, hrd⟩ := rr_row HFr.out.hr hlt
          have hq := kpl_lt s.m k p (by omega)
          obtain ⟨g', off', rfl, zg', x0⟩ := rr_cnt hrd hq
          have HAt := Lib.hid (fun x : Later wr.heap.size wr => rat_any x.at (some ⟨g, off, none⟩) c s p (HFr.out.hr.keep x.below) HK.out k hlt)
          have R0 := fun x : Later wr.heap.size wr => (x.cell (p := ⟨g, off + k, none⟩) zg).trans r0
          have X0 := fun x : Later wr.heap.size wr => (x.cell (p := ⟨g', off' + kpl s.m k p, none⟩) zg').trans x0
          obtain ⟨zp, p0, p1, p2, p3⟩ := HFr.out.hp.at
          obtain ⟨zs, s0⟩ := HFr.out.sb
          have P0 := fun x : Later wr.heap.size wr => (x.cell (p := ⟨(w.heap.size + 1), 0, none⟩) zp).trans p0
          have P1 := fun x : Later wr.heap.size wr => (x.cell (p := ⟨(w.heap.size + 1), 1, none⟩) zp).trans p1
          have P2 := fun x : Later wr.heap.size wr => (x.cell (p := ⟨(w.heap.size + 1), 2, none⟩) zp).trans p2
          have P3 := fun x : Later wr.heap.size wr => (x.cell (p := ⟨(w.heap.size + 1), 3, none⟩) zp).trans p3
          have S0 := fun x : Later wr.heap.size wr => (x.cell (p := ⟨w.heap.size, 0, none⟩) zs).trans s0
          clear zp p0 p1 p2 p3 zs s0
          have hm := HM0.out k
          have hyb := HMb.out k
          have hxb := HK.out.C k (kpl s.m k p)
          generalize s.C k (kpl s.m k p) = x at X0 hm hxb
          generalize kpl s.m k p = a at X0 HAt hq
          have HM := Lib.hid hm
          obtain ⟨y, hy⟩ : ∃ y, F k = y := ⟨_, rfl⟩
          rw [hy] at HM hyb ⊢
          have q1 : (a : Int) < (s.m : Int) := by omega
          clear hm hy zg r0 hrd zg' x0
          by_cases h2 : x < y
          · have h3 : (x : Int) < (y : Int) := by omega
            have h4 : decide ((x : Int) < (y : Int)) = true := by simp; omega
            rw [show min y x = x from by omega] at HM
            go_wp2_with fail
            refine region_later wr.heap.size (by kernel_rfl) (by kernel_rfl) ?_
            repeat (go_big_quiet_step ((go_at_call 24; with_reducible exact later_of (Nat.le_refl _) (HAt.out _))))
            refine wpQuiet_nil ?_
            intro x
            have hx := x.below
            clear P0 P1 P2 P3 S0 R0 X0
            generalize x.at = w6 at *
            clear x
            go_wp2
            go_roundw
            case rel => exact ⟨k + 1, by omega, by go_num, by rw [HM.out], HB.out.trans (hx.mono HB.out.size)⟩
            case measure => simp [intOf]; omega
          · have h3 : (y : Int) ≤ (x : Int) := by omega
            have h4 : decide ((x : Int) < (y : Int)) = false := by simp; omega
            have h5 : decide (x < y) = false := by simp; omega
            rw [show min y x = y from by omega] at HM
            go_wp2_with fail
            refine region_later wr.heap.size (by kernel_rfl) (by kernel_rfl) ?_
            repeat (go_big_quiet_step ((go_at_call 24; with_reducible exact later_of (Nat.le_refl _) (HAt.out _))))
            refine wpQuiet_nil ?_
            intro x
            have hx := x.below
            clear P0 P1 P2 P3 S0 R0 X0
            generalize x.at = w6 at *
            clear x
            go_wp2
            go_roundw
            case rel => exact ⟨k + 1, by omega, by go_num, by rw [HM.out], HB.out.trans (hx.mono HB.out.size)⟩
            case measure => simp [intOf]; omega
        · obtain rfl : s.n = k := by omega
          have t1 : decide ((s.n : Int) < (s.n : Int)) = false := by simp
          go_wp2
          go_ret
          exact ⟨by rw [HE.out]; rfl, HB1.out.trans (HB.out.mono HB1.out.size)⟩

end Go.Proofs.Ytpigdjlanabacaa

namespace Go.Proofs.Ytpigdjlanabacaa
open Go.RowKit
set_option maxRecDepth 100000

theorem add_is {s : Sk} {p : Pf} (h : s.does p = false) : s.add p = s := by
  unfold Sk.add
  cases hs : psane p
  · rw [if_neg (by simp)]
  · rw [if_pos rfl]
    have h0 : s.n = 0 := by unfold Sk.does at h; rw [hs] at h; simpa using h
    rw [h0, Sk.addJ_zero]
theorem addJ_row {s : Sk} {p : Pf} {k : Nat} (hk : k < s.n) : (s.row k).set (kpl s.m k p) (min (s.C k (kpl s.m k p)) 254 + 1) = (s.addJ p s.n).row k := by
  apply List.ext_getElem
  · simp [Sk.row, Sk.addJ]
  · intro a h1 h2
    rw [List.getElem_set, Sk.row_at, Sk.row_at]
    simp only [Sk.addJ]
    by_cases ha : kpl s.m k p = a
    · subst ha; simp [hk]
    · have ha' : ¬ a = kpl s.m k p := fun e => ha e.symm
      simp [ha, ha']
theorem own_some {w : World} {base n c : Nat} {e : TypeId} {A : Option Addr} {xs : List Value} (h : w.ownsRow base e 1 (.slice A n c) n xs) (hn : 0 < n) : ∃ g, A = some ⟨g, 0, none⟩ ∧ base ≤ g ∧ g < w.heap.size := by
  rcases h.2 with ⟨_, e0⟩ | ⟨g, cap, cur, e1, hb, hg, _⟩
  · omega
  · simp only [Value.slice.injEq] at e1
    exact ⟨g, e1.1, hb, lt_of_block hg⟩
def RaPost (w : World) (A0 : Option Addr) (s0 s : Sk) (ok : Bool) (e : Ending) (w' : World) : Prop := ∃ A c, e = .returned (.tuple #[.agg #[.slice A s.n c], .bool ok]) ∧ (A = A0 ∧ s = s0 ∨ RB w.heap.size w' A s.rows) ∧ RR KN w' A s.rows ∧ Below w.heap.size w w'
/-- The box of the result. -/
def QB (wr : World) (b : Nat) : Prop := wr.heap[b]? = some (.cells #[.slice none 0 0] 33 (0, 0))
theorem QB.keep {w wr : World} {b : Nat} (h : QB w b) (hb : Below w.heap.size w wr) : QB wr b := (hb.block _ (lt_of_block h)).trans h
theorem QB.at {w : World} {b : Nat} (h : QB w b) : w.cell? ⟨b, 0, none⟩ = some (.slice none 0 0) ∧ w.frozen? ⟨b, 0, none⟩ = false ∧ b < w.heap.size := by
  unfold QB at h
  exact ⟨by rw [cell_row h]; rfl, frozen_of_row _ _ _ _ _ h, lt_of_block h⟩
set_option maxHeartbeats 4000000 in
theorem radd_any (w : World) (A : Option Addr) (c : Nat) (s : Sk) (p : Pf) (h : RR KN w A s.rows) (hk : s.Ok) : Calls Try.prog 14 #[.agg #[.slice A s.n c], .agg #[.int .u64 (u p.a.hi), .int .u64 (u p.a.lo), .bool p.a.v6, .int .i64 p.n]] w (RaPost w A s (s.add p) (s.does p)) := by
  have HR0 := Lib.hid h
  have HK := Lib.hid hk
  have n4 := hk.n
  have m0 := hk.m0
  have m1 := hk.m
  clear h hk
  go_enter Try.func14, Try.ntmps14
  go_wp2_with fail
  have hB : Below w.heap.size w (((w.alloc (.cells #[.slice A s.n c] 33)).alloc (.cells #[.int .u64 (u p.a.hi), .int .u64 (u p.a.lo), .bool p.a.v6, .int .i64 p.n] 27)).alloc (.cells #[.slice none 0 0] 33)) := by go_grown
  have HF0 : Hid (Rf (((w.alloc (.cells #[.slice A s.n c] 33)).alloc (.cells #[.int .u64 (u p.a.hi), .int .u64 (u p.a.lo), .bool p.a.v6, .int .i64 p.n] 27)).alloc (.cells #[.slice none 0 0] 33)) w.heap.size (w.heap.size + 1) A c s p) := Lib.hid ⟨hp_old (by simp; omega) (hp_old (by simp) (hp_new rfl)), hp_old (by simp) (hp_new (by simp)), HR0.out.keep hB⟩
  have HQ0 : Hid (QB (((w.alloc (.cells #[.slice A s.n c] 33)).alloc (.cells #[.int .u64 (u p.a.hi), .int .u64 (u p.a.lo), .bool p.a.v6, .int .i64 p.n] 27)).alloc (.cells #[.slice none 0 0] 33)) (w.heap.size + 1 + 1)) := Lib.hid (hp_new (by simp))
  generalize World.alloc (World.alloc (World.alloc _ _) _) _ = W at hB HF0 HQ0 ⊢
  refine (rpsane_any p _).mono ?_
  rintro e w1 ⟨rfl, b1⟩
  have HF := Lib.hid (HF0.out.keep b1)
  have HQ := Lib.hid (HQ0.out.keep b1)
  have HB1 := Lib.hid (hB.trans (b1.mono hB.size))
  obtain ⟨zs, s0⟩ := HF.out.sb
  obtain ⟨q0, f0, zq⟩ := HQ.out.at
  clear b1 HF0 HQ0 hB
  have HN : Hid (s.does p = false → ∀ y, RaPost w A s (s.add p) (s.does p) (.returned (.tuple #[.agg #[.slice A s.n c], .bool false])) (w1.setCell ⟨w.heap.size + 1 + 1, 0, none⟩ y)) := Lib.hid (fun hd y => by
    rw [add_is hd, hd]
    have hc : Below w.heap.size w1 (w1.setCell ⟨w.heap.size + 1 + 1, 0, none⟩ y) := (Below.refl _ _).setCell (p := ⟨w.heap.size + 1 + 1, 0, none⟩) (by simp only; omega) y
    have hz := HB1.out.size
    exact ⟨A, c, rfl, .inl ⟨rfl, rfl⟩, HR0.out.keep (HB1.out.trans hc), HB1.out.trans hc⟩)
  cases hs : psane p
  · have e0 := HN.out (by unfold Sk.does; rw [hs]; rfl)
    have HE := Lib.hid e0
    clear hs e0 HN
    go_wp2
    refine bodyPost_ret (v := .tuple #[.agg #[.slice A s.n c], .bool false]) (by simp [*, results, Try.results14, go_sem] <;> rfl) rfl ?_
    exact HE.out _
  · by_cases hn : s.n = 0
    · have e0 := HN.out (by unfold Sk.does; rw [hs, hn]; rfl)
      have HE := Lib.hid e0
      have hz : ((s.n : Int) == 0) = true := by rw [hn]; rfl
      clear hs e0 HN hn
      go_wp2
      refine bodyPost_ret (v := .tuple #[.agg #[.slice A s.n c], .bool false]) (by simp [*, results, Try.results14, go_sem] <;> rfl) rfl ?_
      exact HE.out _
    · have hz : ((s.n : Int) == 0) = false := by simp; omega
      have HD : Hid (s.does p = true ∧ s.add p = s.addJ p s.n) := Lib.hid ⟨by unfold Sk.does; rw [hs]; simp; omega, by unfold Sk.add; rw [if_pos hs]⟩
      clear hs HN hn
      go_wp2_with fail
      clear s0 zs q0 f0 zq
      go_loopw [6, 7] (fun x i wr => ∃ (k : Nat) (A2 : Option Addr) (c2 : Nat), k ≤ s.n ∧ i = .int .i64 k ∧ x = .slice A2 k c2 ∧ RoR w1.heap.size wr (rowsJ (s.addJ p s.n) k) A2 c2 ∧ Below w1.heap.size w1 wr) (fun _ i _ => s.n - (intOf i).toNat)
      case atStart => exact ⟨0, none, 0, Nat.zero_le _, rfl, rfl, RoR.nil _ _, Below.refl _ _⟩
      case round =>
        obtain ⟨k, A2, c2, hkn, rfl, rfl, hr, hb⟩ := hrel
        have HR := Lib.hid hr
        have HB := Lib.hid hb
        have HFr := Lib.hid (HF.out.keep hb)
        obtain ⟨zs, s0⟩ := HFr.out.sb
        clear hr hb
        by_cases hlt : k < s.n
        · have t1 : decide ((k : Int) < (s.n : Int)) = true := by simp; omega
          have k1 : (k : Int) < (s.n : Int) := by omega
          generalize hw8 : wr = w8 at *
          obtain ⟨g, off, A', c', rfl, zg, r0, hrd⟩ := rr_row HFr.out.hr hlt
          have hq := kpl_lt s.m k p (by omega)
          obtain ⟨g', off', rfl, -, -⟩ := rr_cnt hrd hq
          have HRD := Lib.hid hrd
          have HRow := Lib.hid (addJ_row (p := p) hlt)
          clear hrd hw8
          go_upto_region 8 with (
            at_builtin
            refine Kd.wpList_many KN_ty rfl (.tmp 26) (.tmp 31) rfl w8.heap.size _ 0 [] rfl (by rfl) (own_empty (hp_new rfl) _ (Nat.le_refl _)) (some ⟨g', off', none⟩) s.m c' (s.row k) (Sk.row_len s k).symm (fun e => by cases e) (by rfl) (HRD.out.kept (by go_grown)) (by omega) (by simp) ?_
            intro A5 c5 w5 hG
            have hO5 : w5.ownsRow w8.heap.size 3 1 (.slice A5 s.m c5) s.m (KN.row (s.row k)) := by
              have := hG.1
              rw [Nat.zero_add, List.nil_append] at this
              exact this
            have hB5 : Below w8.heap.size w8 w5 := ((Below.refl _ _).alloc (Nat.le_refl _) _).trans hG.2.2.2
            rw [Nat.zero_add]
            clear hG
            )
          obtain ⟨gx, rfl, hgx, zgx⟩ := own_some hO5 (by omega)
          have HO5 := Lib.hid hO5
          have HB5 := Lib.hid hB5
          have HF5 := Lib.hid (HFr.out.keep hB5)
          have x0 : w5.cell? ⟨gx, kpl s.m k p, none⟩ = some (.int .i64 (s.C k (kpl s.m k p) : Int)) := by
            rw [hO5.cellAt _ (by omega)]
            have := KN.row_at (s.row k) (kpl s.m k p) (by rw [Sk.row_len]; exact hq) 0 (by decide)
            rw [show kpl s.m k p * KN.k + 0 = kpl s.m k p from by simp [KN], Sk.row_at] at this
            exact this
          have X0 := fun x : Later w5.heap.size w5 => (x.cell (p := ⟨gx, kpl s.m k p, none⟩) zgx).trans x0
          have HAt := Lib.hid (fun x : Later w5.heap.size w5 => rat_any x.at (some ⟨g, off, none⟩) c s p (HF5.out.hr.keep x.below) HK.out k hlt)
          have hxb := HK.out.C k (kpl s.m k p)
          clear x0 hO5 hB5 zg r0 HRD zs s0
          obtain ⟨zp, p0, p1, p2, p3⟩ := HF5.out.hp.at
          obtain ⟨zs, s0⟩ := HF5.out.sb
          have P0 := fun x : Later w5.heap.size w5 => (x.cell (p := ⟨(w.heap.size + 1), 0, none⟩) zp).trans p0
          have P1 := fun x : Later w5.heap.size w5 => (x.cell (p := ⟨(w.heap.size + 1), 1, none⟩) zp).trans p1
          have P2 := fun x : Later w5.heap.size w5 => (x.cell (p := ⟨(w.heap.size + 1), 2, none⟩) zp).trans p2
          have P3 := fun x : Later w5.heap.size w5 => (x.cell (p := ⟨(w.heap.size + 1), 3, none⟩) zp).trans p3
          have S0 := fun x : Later w5.heap.size w5 => (x.cell (p := ⟨w.heap.size, 0, none⟩) zs).trans s0
          clear zp p0 p1 p2 p3 zs s0
          generalize s.C k (kpl s.m k p) = v at X0 HRow hxb
          generalize kpl s.m k p = a at X0 HAt HRow hq
          have q1 : (a : Int) < (s.m : Int) := by omega
          by_cases hv : v < 254
          · have v1 : (v : Int) + 1 < 255 := by omega
            have v2 : decide ((v : Int) + 1 < 255) = true := by simp; omega
            rw [show min _ 254 + 1 = (v + 1) from by omega] at HRow
            refine region_tail 15 w5.heap.size (by kernel_rfl) (by kernel_rfl) ?_
            simp only [List.take_succ_cons, List.take_zero, List.drop_succ_cons, List.drop_zero]
            repeat (go_big_quiet_step ((go_at_call 24; with_reducible exact later_of (Nat.le_refl _) (HAt.out _))))
            refine wpQuiet_nil ?_
            intro x
            have hx := x.below
            have x6 := X0 x
            clear P0 P1 P2 P3 S0 X0 HAt
            generalize x.at = w6 at *
            clear x
            have ho6 := own_block HO5.out (fun b _ hl => hx.block b hl)
            have f6 := ho6.frozenAt a
            have z6 := hx.size
            have HS6 : Hid ((w6.setCell ⟨gx, a, none⟩ (.int .i64 ((v : Int) + 1))).ownsRow w8.heap.size 3 1 (.slice (some ⟨gx, 0, none⟩) s.m c5) s.m (KN.row ((s.addJ p s.n).row k))) := Lib.hid (by
              have h9 := Kd.own_set1 (K := KN) rfl ho6 a (by rw [Sk.row_len]; exact hq) (v + 1) (.int .i64 ((v : Int) + 1)) (by simp [KN, natE])
              rw [HRow.out] at h9
              exact h9)
            have HB6 : Hid (Below w8.heap.size w8 (w6.setCell ⟨gx, a, none⟩ (.int .i64 ((v : Int) + 1)))) := Lib.hid ((HB5.out.trans (hx.mono HB5.out.size)).setCell (p := ⟨gx, a, none⟩) hgx _)
            clear ho6 hx HO5 HB5 HRow
            go_upto_region 9 with fail
            generalize World.setCell _ _ _ = w7 at HS6 HB6 ⊢
            clear x6 f6 z6
            obtain ⟨xs, hxl, hxo⟩ := (HR.out.keep HB6.out).own
            rw [rowsJ_len] at hxl hxo
            have HXO := Lib.hid hxo
            have zw := HB.out.size
            have z7 := HB6.out.size
            clear hxo
            go_wp2_with (
              at_builtin
              refine Kd.wpList_one KR_ty rfl (.tmp 48) (.tmp 50) rfl w1.heap.size _ k _ hxl (by rfl) (HXO.out.alloc _) w7.heap.size ⟨some ⟨gx, 0, none⟩, s.m, c5⟩ (by rfl) (hp_new rfl) (by omega) (by simp; omega) ?_
              intro A' c' w9 hG
              have HG9 := Lib.hid hG
              clear hG
              )
            go_roundw
            case rel =>
              have ho2 : (w7.alloc (.cells #[.slice (some ⟨gx, 0, none⟩) s.m c5] 56)).ownsRow w1.heap.size 3 1 (.slice (some ⟨gx, 0, none⟩) ((s.addJ p s.n).row k).length c5) ((s.addJ p s.n).row k).length (KN.row ((s.addJ p s.n).row k)) := by
                rw [Sk.row_len]
                exact own_low (HS6.out.alloc _) zw
              have h3 := RoR.snoc (A2 := some ⟨gx, 0, none⟩) (c2 := c5) (l := (s.addJ p s.n).row k) (HR.out.keep HB6.out) (by rw [rowsJ_len]; exact HXO.out) (V := w7.alloc (.cells #[.slice (some ⟨gx, 0, none⟩) s.m c5] 56)) (by go_grown) ho2 (A' := A') (c' := c') (w' := w9) (by rw [rowsJ_len, Sk.row_len]; exact HG9.out)
              rw [← rowsJ_succ] at h3
              exact ⟨k + 1, A', c', by omega, by go_num, by rw [← hxl], h3, ((HB.out.trans (HB6.out.mono zw)).alloc (by omega) _).trans HG9.out.2.2.2⟩
            case measure => simp [intOf]; omega
          · obtain rfl | rfl : v = 254 ∨ v = 255 := by omega
            · clear hv hxb
              rw [show min _ 254 + 1 = 255 from by omega] at HRow
              refine region_tail 15 w5.heap.size (by kernel_rfl) (by kernel_rfl) ?_
              simp only [List.take_succ_cons, List.take_zero, List.drop_succ_cons, List.drop_zero]
              repeat (go_big_quiet_step ((go_at_call 24; with_reducible exact later_of (Nat.le_refl _) (HAt.out _))))
              refine wpQuiet_nil ?_
              intro x
              have hx := x.below
              have x6 := X0 x
              clear P0 P1 P2 P3 S0 X0 HAt
              generalize x.at = w6 at *
              clear x
              have ho6 := own_block HO5.out (fun b _ hl => hx.block b hl)
              have f6 := ho6.frozenAt a
              have z6 := hx.size
              have HS6 : Hid ((w6.setCell ⟨gx, a, none⟩ (.int .i64 255)).ownsRow w8.heap.size 3 1 (.slice (some ⟨gx, 0, none⟩) s.m c5) s.m (KN.row ((s.addJ p s.n).row k))) := Lib.hid (by
                have h9 := Kd.own_set1 (K := KN) rfl ho6 a (by rw [Sk.row_len]; exact hq) 255 (.int .i64 255) (by simp [KN, natE])
                rw [HRow.out] at h9
                exact h9)
              have HB6 : Hid (Below w8.heap.size w8 (w6.setCell ⟨gx, a, none⟩ (.int .i64 255))) := Lib.hid ((HB5.out.trans (hx.mono HB5.out.size)).setCell (p := ⟨gx, a, none⟩) hgx _)
              clear ho6 hx HO5 HB5 HRow
              go_upto_region 9 with fail
              generalize World.setCell _ _ _ = w7 at HS6 HB6 ⊢
              clear x6 f6 z6
              obtain ⟨xs, hxl, hxo⟩ := (HR.out.keep HB6.out).own
              rw [rowsJ_len] at hxl hxo
              have HXO := Lib.hid hxo
              have zw := HB.out.size
              have z7 := HB6.out.size
              clear hxo
              go_wp2_with (
                at_builtin
                refine Kd.wpList_one KR_ty rfl (.tmp 48) (.tmp 50) rfl w1.heap.size _ k _ hxl (by rfl) (HXO.out.alloc _) w7.heap.size ⟨some ⟨gx, 0, none⟩, s.m, c5⟩ (by rfl) (hp_new rfl) (by omega) (by simp; omega) ?_
                intro A' c' w9 hG
                have HG9 := Lib.hid hG
                clear hG
                )
              go_roundw
              case rel =>
                have ho2 : (w7.alloc (.cells #[.slice (some ⟨gx, 0, none⟩) s.m c5] 56)).ownsRow w1.heap.size 3 1 (.slice (some ⟨gx, 0, none⟩) ((s.addJ p s.n).row k).length c5) ((s.addJ p s.n).row k).length (KN.row ((s.addJ p s.n).row k)) := by
                  rw [Sk.row_len]
                  exact own_low (HS6.out.alloc _) zw
                have h3 := RoR.snoc (A2 := some ⟨gx, 0, none⟩) (c2 := c5) (l := (s.addJ p s.n).row k) (HR.out.keep HB6.out) (by rw [rowsJ_len]; exact HXO.out) (V := w7.alloc (.cells #[.slice (some ⟨gx, 0, none⟩) s.m c5] 56)) (by go_grown) ho2 (A' := A') (c' := c') (w' := w9) (by rw [rowsJ_len, Sk.row_len]; exact HG9.out)
                rw [← rowsJ_succ] at h3
                exact ⟨k + 1, A', c', by omega, by go_num, by rw [← hxl], h3, ((HB.out.trans (HB6.out.mono zw)).alloc (by omega) _).trans HG9.out.2.2.2⟩
              case measure => simp [intOf]; omega
            · clear hv hxb
              rw [show min _ 254 + 1 = 255 from by omega] at HRow
              refine region_tail 15 w5.heap.size (by kernel_rfl) (by kernel_rfl) ?_
              simp only [List.take_succ_cons, List.take_zero, List.drop_succ_cons, List.drop_zero]
              repeat (go_big_quiet_step ((go_at_call 24; with_reducible exact later_of (Nat.le_refl _) (HAt.out _))))
              refine wpQuiet_nil ?_
              intro x
              have hx := x.below
              have x6 := X0 x
              clear P0 P1 P2 P3 S0 X0 HAt
              generalize x.at = w6 at *
              clear x
              have ho6 := own_block HO5.out (fun b _ hl => hx.block b hl)
              have f6 := ho6.frozenAt a
              have z6 := hx.size
              have HS6 : Hid ((w6.setCell ⟨gx, a, none⟩ (.int .i64 255)).ownsRow w8.heap.size 3 1 (.slice (some ⟨gx, 0, none⟩) s.m c5) s.m (KN.row ((s.addJ p s.n).row k))) := Lib.hid (by
                have h9 := Kd.own_set1 (K := KN) rfl ho6 a (by rw [Sk.row_len]; exact hq) 255 (.int .i64 255) (by simp [KN, natE])
                rw [HRow.out] at h9
                exact h9)
              have HB6 : Hid (Below w8.heap.size w8 (w6.setCell ⟨gx, a, none⟩ (.int .i64 255))) := Lib.hid ((HB5.out.trans (hx.mono HB5.out.size)).setCell (p := ⟨gx, a, none⟩) hgx _)
              clear ho6 hx HO5 HB5 HRow
              go_upto_region 9 with fail
              generalize World.setCell _ _ _ = w7 at HS6 HB6 ⊢
              clear x6 f6 z6
              obtain ⟨xs, hxl, hxo⟩ := (HR.out.keep HB6.out).own
              rw [rowsJ_len] at hxl hxo
              have HXO := Lib.hid hxo
              have zw := HB.out.size
              have z7 := HB6.out.size
              clear hxo
              go_wp2_with (
                at_builtin
                refine Kd.wpList_one KR_ty rfl (.tmp 48) (.tmp 50) rfl w1.heap.size _ k _ hxl (by rfl) (HXO.out.alloc _) w7.heap.size ⟨some ⟨gx, 0, none⟩, s.m, c5⟩ (by rfl) (hp_new rfl) (by omega) (by simp; omega) ?_
                intro A' c' w9 hG
                have HG9 := Lib.hid hG
                clear hG
                )
              go_roundw
              case rel =>
                have ho2 : (w7.alloc (.cells #[.slice (some ⟨gx, 0, none⟩) s.m c5] 56)).ownsRow w1.heap.size 3 1 (.slice (some ⟨gx, 0, none⟩) ((s.addJ p s.n).row k).length c5) ((s.addJ p s.n).row k).length (KN.row ((s.addJ p s.n).row k)) := by
                  rw [Sk.row_len]
                  exact own_low (HS6.out.alloc _) zw
                have h3 := RoR.snoc (A2 := some ⟨gx, 0, none⟩) (c2 := c5) (l := (s.addJ p s.n).row k) (HR.out.keep HB6.out) (by rw [rowsJ_len]; exact HXO.out) (V := w7.alloc (.cells #[.slice (some ⟨gx, 0, none⟩) s.m c5] 56)) (by go_grown) ho2 (A' := A') (c' := c') (w' := w9) (by rw [rowsJ_len, Sk.row_len]; exact HG9.out)
                rw [← rowsJ_succ] at h3
                exact ⟨k + 1, A', c', by omega, by go_num, by rw [← hxl], h3, ((HB.out.trans (HB6.out.mono zw)).alloc (by omega) _).trans HG9.out.2.2.2⟩
              case measure => simp [intOf]; omega
        · obtain rfl : s.n = k := by omega
          have t1 : decide ((s.n : Int) < (s.n : Int)) = false := by simp
          obtain ⟨q0, f0, zq⟩ := (HQ.out.keep HB.out).at
          have hz1 := HB1.out.size
          have HE : Hid (∀ y, RaPost w A s (s.add p) (s.does p) (.returned (.tuple #[.agg #[.slice A2 s.n c2], .bool true])) (wr.setCell ⟨w.heap.size + 1 + 1, 0, none⟩ y)) := Lib.hid (fun y => by
            rw [HD.out.1, HD.out.2]
            have hrb := HR.out.out (HQ.out.at).2.2 0 y
            exact ⟨A2, c2, rfl, .inr (hrb.low hz1), hrb.rr, (HB1.out.trans (HB.out.mono hz1)).setCell (p := ⟨w.heap.size + 1 + 1, 0, none⟩) (by simp only; omega) y⟩)
          clear hz1
          go_wp2
          refine bodyPost_ret (v := .tuple #[.agg #[.slice A2 s.n c2], .bool true]) (by simp [*, results, Try.results14, go_sem] <;> rfl) rfl ?_
          exact HE.out _

end Go.Proofs.Ytpigdjlanabacaa

namespace Go.Proofs.Ytpigdjlanabacaa
open Go.RowKit
set_option maxRecDepth 100000

theorem dec_row {s : Sk} {k : Nat} (hk : k < s.n) (j : Nat) (hj : j < s.m) : ((s.dec.row k).take (j + 1)) = (s.dec.row k).take j ++ [s.C k j / 2] := by
  have hl : j < (s.dec.row k).length := by rw [Sk.row_len]; exact hj
  rw [List.take_succ_eq_append_getElem hl, Sk.row_at, dec_C hk]
theorem SBxR {wr : World} {b : Nat} {A : Option Addr} {n c : Nat} (h : wr.heap[b]? = some (.cells #[.slice A n c] 33 (0, 0))) : b < wr.heap.size ∧ wr.cell? ⟨b, 0, none⟩ = some (.slice A n c) :=
  ⟨lt_of_block h, by rw [cell_row h]; rfl⟩
set_option maxHeartbeats 4000000 in
theorem rdecay_any (w : World) (A : Option Addr) (c : Nat) (s : Sk) (h : RR KN w A s.rows) (hk : s.Ok) : Calls Try.prog 12 #[.agg #[.slice A s.n c]] w (RgPost w s.dec) := by
  have HR0 := Lib.hid h
  have HK := Lib.hid hk
  have n4 := hk.n
  have m0 := hk.m0
  have m1 := hk.m
  clear h hk
  go_enter Try.func12, Try.ntmps12
  go_upto_region 3 with fail
  have hB : Below w.heap.size w ((w.alloc (.cells #[.slice A s.n c] 33)).alloc (.cells #[.slice none 0 0] 33)) := by go_grown
  have HS0 : Hid (((w.alloc (.cells #[.slice A s.n c] 33)).alloc (.cells #[.slice none 0 0] 33)).heap[w.heap.size]? = some (.cells #[.slice A s.n c] 33 (0, 0))) := Lib.hid (hp_old (by simp) (hp_new rfl))
  have HQ0 : Hid (QB ((w.alloc (.cells #[.slice A s.n c] 33)).alloc (.cells #[.slice none 0 0] 33)) (w.heap.size + 1)) := Lib.hid (hp_new (by simp))
  generalize World.alloc (World.alloc _ _) _ = w1 at hB HS0 HQ0 ⊢
  have HB1 := Lib.hid hB
  have HR1 := Lib.hid (HR0.out.keep hB)
  clear hB HR0
  go_loopw [3, 4] (fun x i wr => ∃ (k : Nat) (A2 : Option Addr) (c2 : Nat), k ≤ s.n ∧ i = .int .i64 k ∧ x = .slice A2 k c2 ∧ RoR w1.heap.size wr (rowsJ s.dec k) A2 c2 ∧ Below w1.heap.size w1 wr) (fun _ i _ => s.n - (intOf i).toNat)
  case atStart => exact ⟨0, none, 0, Nat.zero_le _, rfl, rfl, RoR.nil _ _, Below.refl _ _⟩
  case round =>
    obtain ⟨k, A2, c2, hkn, rfl, rfl, hr, hb⟩ := hrel
    have HR := Lib.hid hr
    have HB := Lib.hid hb
    obtain ⟨zs, s0⟩ := SBxR ((hb.block _ (lt_of_block HS0.out)).trans HS0.out)
    have HRk := Lib.hid (HR1.out.keep hb)
    clear hr hb
    by_cases hlt : k < s.n
    · have t1 : decide ((k : Int) < (s.n : Int)) = true := by simp; omega
      have k1 : (k : Int) < (s.n : Int) := by omega
      obtain ⟨g, off, A', c', rfl, zg, r0, hrd⟩ := rr_row HRk.out hlt
      have HRD := Lib.hid hrd
      clear hrd
      go_upto_region 7 with fail
      generalize wr = w8 at *
      go_loopw [5, 6] (fun x i wr => ∃ (j : Nat) (A3 : Option Addr) (c3 : Nat), j ≤ s.m ∧ i = .int .i64 j ∧ x = .slice A3 j c3 ∧ wr.ownsRow w8.heap.size 3 1 (.slice A3 j c3) j (KN.row ((s.dec.row k).take j)) ∧ Below w8.heap.size w8 wr) (fun _ i _ => s.m - (intOf i).toNat)
      case atStart => exact ⟨0, none, 0, Nat.zero_le _, rfl, rfl, World.ownsRow_nil _ _ _ _, Below.refl _ _⟩
      case round =>
        obtain ⟨j, A3, c3, hjm, rfl, rfl, ho, hb2⟩ := hrel
        have HO := Lib.hid ho
        have HB2 := Lib.hid hb2
        have s1 := (hb2.cell (p := ⟨w.heap.size, 0, none⟩) zs).trans s0
        have r1 := (hb2.cell (p := ⟨g, off + k, none⟩) zg).trans r0
        clear ho
        by_cases hlj : j < s.m
        · have t2 : decide ((j : Int) < (s.m : Int)) = true := by simp; omega
          have k2 : (j : Int) < (s.m : Int) := by omega
          obtain ⟨g', off', rfl, zg', x0⟩ := rr_cnt HRD.out hlj
          have x1 := (hb2.cell (p := ⟨g', off' + j, none⟩) zg').trans x0
          have hx := HK.out.C k j
          have HT := Lib.hid (dec_row hlt j hlj)
          have hlen : ((s.dec.row k).take j).length = j := by rw [List.length_take, Sk.row_len]; show min j s.m = j; omega
          have HLn := Lib.hid hlen
          generalize s.C k j = v at x0 x1 hx HT
          have hd : (v : Int).tdiv 2 = ((v / 2 : Nat) : Int) := by rw [Int.tdiv_eq_ediv_of_nonneg (by omega)]; omega
          have hd2 : IntKind.i64.wrap ((v : Int).tdiv 2) = ((v / 2 : Nat) : Int) := by rw [hd, IntKind.wrap_i64]; omega
          have z8 := HB2.out.size
          clear hb2 hd hlen x0 s0 r0
          go_wp2_with (
            at_builtin
            refine Kd.wpList_one KN_ty rfl (.tmp 24) (.tmp 34) rfl w8.heap.size _ j _ HLn.out.symm (by rfl) (HO.out.alloc _) wr.heap.size (v / 2) (by rfl) (hp_new rfl) (by omega) (by simp; omega) ?_
            intro A' c' w7 hG
            have HG7 := Lib.hid hG
            clear hG
            )
          go_roundw
          case rel => exact ⟨j + 1, A', c', by omega, by go_num, rfl, by rw [HT.out]; exact HG7.out.1, (HB2.out.alloc z8 _).trans HG7.out.2.2.2⟩
          case measure => simp [intOf]; omega
        · obtain rfl : s.m = j := by omega
          have t2 : decide ((s.m : Int) < (s.m : Int)) = false := by simp
          rw [List.take_of_length_le (by rw [Sk.row_len]; exact Nat.le_refl _)] at HO
          have HR2 := Lib.hid (HR.out.keep hb2)
          have zw := HB.out.size
          have z7 := HB2.out.size
          obtain ⟨xs, hxl, hxo⟩ := HR2.out.own
          rw [rowsJ_len] at hxl hxo
          have HXO := Lib.hid hxo
          have HXL := Lib.hid hxl
          clear hb2 hxo hxl
          go_wp2_with (
            at_builtin
            refine Kd.wpList_one KR_ty rfl (.tmp 36) (.tmp 38) rfl w1.heap.size _ k _ HXL.out (by rfl) (HXO.out.alloc _) wr.heap.size ⟨A3, s.m, c3⟩ (by rfl) (hp_new rfl) (by omega) (by simp; omega) ?_
            intro A' c' w9 hG
            have HG9 := Lib.hid hG
            clear hG
            )
          go_roundw
          case rel =>
            have ho2 : (wr.alloc (.cells #[.slice A3 s.m c3] 56)).ownsRow w1.heap.size 3 1 (.slice A3 (s.dec.row k).length c3) (s.dec.row k).length (KN.row (s.dec.row k)) := by
              rw [Sk.row_len]
              exact own_low (HO.out.alloc _) zw
            have h3 := RoR.snoc (A2 := A3) (c2 := c3) (l := s.dec.row k) HR2.out (by rw [rowsJ_len]; exact HXO.out) (V := wr.alloc (.cells #[.slice A3 s.m c3] 56)) (by go_grown) ho2 (A' := A') (c' := c') (w' := w9) (by rw [rowsJ_len, Sk.row_len]; exact HG9.out)
            rw [← rowsJ_succ] at h3
            exact ⟨k + 1, A', c', by omega, by go_num, rfl, h3, ((HB.out.trans (HB2.out.mono zw)).alloc (by omega) _).trans HG9.out.2.2.2⟩
          case measure => simp [intOf]; omega
    · obtain rfl : s.n = k := by omega
      have t1 : decide ((s.n : Int) < (s.n : Int)) = false := by simp
      obtain ⟨q0, f0, zq⟩ := (HQ0.out.keep HB.out).at
      have hz1 := HB1.out.size
      have HE : Hid (∀ y, RgPost w s.dec (.returned (.agg #[.slice A2 s.n c2])) (wr.setCell ⟨w.heap.size + 1, 0, none⟩ y)) := Lib.hid (fun y => ⟨A2, c2, rfl, (HR.out.out (HQ0.out.at).2.2 _ y).low hz1, (HB1.out.trans (HB.out.mono hz1)).setCell (p := ⟨w.heap.size + 1, 0, none⟩) (by simp only; omega) y⟩)
      clear hz1
      go_wp2
      refine bodyPost_ret (v := .agg #[.slice A2 s.n c2]) (by simp [*, results, Try.results12, go_sem] <;> rfl) rfl ?_
      exact HE.out _
set_option maxHeartbeats 4000000 in
theorem rsame_any (w : World) (A B : Option Addr) (ca cb : Nat) (s : Sk) (hA : RR KN w A s.rows) (hB : RR KN w B s.rows) (hn : s.n ≤ 100) (hm : s.m ≤ 1000) : Calls Try.prog 17 #[.slice A s.n ca, .slice B s.n cb] w fun e w' => e = .returned (.bool true) ∧ Below w.heap.size w w' := by
  have HA := Lib.hid hA
  have HB' := Lib.hid hB
  clear hA hB
  go_enter Try.func17, Try.ntmps17
  go_wp2_with fail
  go_loopw [5] (fun i wr => ∃ k : Nat, k ≤ s.n ∧ i = .int .i64 k ∧ Below w.heap.size w wr) (fun i _ => s.n - (intOf i).toNat)
  case atStart => exact ⟨0, Nat.zero_le _, rfl, Below.refl _ _⟩
  case round =>
    obtain ⟨k, hk, rfl, hb⟩ := hrel
    have HB := Lib.hid hb
    by_cases hlt : k < s.n
    · have t1 : decide ((k : Int) < (s.n : Int)) = true := by simp; omega
      have k1 : (k : Int) < (s.n : Int) := by omega
      obtain ⟨g, off, A', c', rfl, zg, r0, hrd⟩ := rr_row (HA.out.keep hb) hlt
      obtain ⟨g2, off2, A2, c2, rfl, zg2, r2, hrd2⟩ := rr_row (HB'.out.keep hb) hlt
      have HRD := Lib.hid hrd
      have HRD2 := Lib.hid hrd2
      have R0 := fun x : Later wr.heap.size wr => (x.cell (p := ⟨g, off + k, none⟩) zg).trans r0
      have R2 := fun x : Later wr.heap.size wr => (x.cell (p := ⟨g2, off2 + k, none⟩) zg2).trans r2
      clear hrd hrd2 hb r0 r2
      go_wp2_with fail
      refine region_later wr.heap.size (by kernel_rfl) (by kernel_rfl) ?_
      repeat (go_big_quiet_step (fail))
      refine wpQuiet_nil ?_
      intro x
      have hx := x.below
      have r0 := R0 x
      have HRDx := Lib.hid (HRD.out.kept hx)
      have HRDy := Lib.hid (HRD2.out.kept hx)
      have HRr := Lib.hid R0
      have HRr2 := Lib.hid R2
      have zg3 : g < x.at.heap.size := Nat.lt_of_lt_of_le zg hx.size
      have zg4 : g2 < x.at.heap.size := Nat.lt_of_lt_of_le zg2 hx.size
      have r2 := R2 x
      clear R0 R2 HRD HRD2 HRr HRr2
      generalize x.at = w8 at *
      clear x
      go_wp2_with fail
      go_loopw [6] (fun i wr => ∃ j : Nat, j ≤ s.m ∧ i = .int .i64 j ∧ Below w8.heap.size w8 wr) (fun i _ => s.m - (intOf i).toNat)
      case atStart => exact ⟨0, Nat.zero_le _, rfl, Below.refl _ _⟩
      case round =>
        obtain ⟨j, hj, rfl, hb2⟩ := hrel
        have HB2 := Lib.hid hb2
        have r1 := (hb2.cell (p := ⟨g, off + k, none⟩) zg3).trans r0
        have r3 := (hb2.cell (p := ⟨g2, off2 + k, none⟩) zg4).trans r2
        by_cases hlj : j < s.m
        · have t2 : decide ((j : Int) < (s.m : Int)) = true := by simp; omega
          have k2 : (j : Int) < (s.m : Int) := by omega
          obtain ⟨g', off', rfl, zg', x0⟩ := rr_cnt HRDx.out hlj
          obtain ⟨g'', off'', rfl, zg'', y0⟩ := rr_cnt HRDy.out hlj
          have zz := hb2.size
          have R0 := fun x : Later wr.heap.size wr => (x.cell (p := ⟨g, off + k, none⟩) (by simp only; omega)).trans r1
          have R2 := fun x : Later wr.heap.size wr => (x.cell (p := ⟨g2, off2 + k, none⟩) (by simp only; omega)).trans r3
          have X0 := fun x : Later wr.heap.size wr => (x.cell (p := ⟨g', off' + j, none⟩) (by simp only; omega)).trans ((hb2.cell (p := ⟨g', off' + j, none⟩) zg').trans x0)
          have Y0 := fun x : Later wr.heap.size wr => (x.cell (p := ⟨g'', off'' + j, none⟩) (by simp only; omega)).trans ((hb2.cell (p := ⟨g'', off'' + j, none⟩) zg'').trans y0)
          generalize s.C k j = v at X0 Y0
          clear hb2 r0 r2 zz x0 y0
          go_wp2_with fail
          refine region_later wr.heap.size (by kernel_rfl) (by kernel_rfl) ?_
          repeat (go_big_quiet_step (fail))
          refine wpQuiet_nil ?_
          intro x
          have hx9 := x.below
          clear R0 R2 X0 Y0 r1 r3
          generalize x.at = w9 at *
          clear x
          go_wp2
          go_roundw
          case rel => exact ⟨j + 1, by omega, by go_num, HB2.out.trans (hx9.mono HB2.out.size)⟩
          case measure => simp [intOf]; omega
        · obtain rfl : s.m = j := by omega
          have t2 : decide ((s.m : Int) < (s.m : Int)) = false := by simp
          clear hb2 r0 r2
          go_wp2
          go_roundw
          case rel => exact ⟨k + 1, by omega, by go_num, (HB.out.trans (hx.mono HB.out.size)).trans (HB2.out.mono (HB.out.trans (hx.mono HB.out.size)).size)⟩
          case measure => simp [intOf]; omega
    · obtain rfl : s.n = k := by omega
      have t1 : decide ((s.n : Int) < (s.n : Int)) = false := by simp
      go_wp2
      go_ret
      exact ⟨rfl, HB.out⟩

end Go.Proofs.Ytpigdjlanabacaa

namespace Go.Proofs.Ytpigdjlanabacaa
open Go.RowKit
set_option maxRecDepth 100000

/-- Rows that lie in blocks from B on, and not in q. -/
def RX (q B : Nat) (w : World) (A : Option Addr) (L : List (List Nat)) : Prop := ∀ w' : World, (∀ k, B ≤ k → k ≠ q → k < w.heap.size → w'.heap[k]? = w.heap[k]?) → RR KN w' A L
section
variable {q B : Nat} {w w1 : World} {A : Option Addr} {L : List (List Nat)}
theorem RX.rr (h : RX q B w A L) : RR KN w A L := h w (fun _ _ _ _ => rfl)
theorem RX.frm {S : Nat → Prop} (h : RX q B w A L) (hf : Frm S w w1) (hS : ∀ b, S b → b < B) : RX q B w1 A L := fun w' hw => h w' (fun k hk hq hl => (hw k hk hq (Nat.lt_of_lt_of_le hl hf.size)).trans (hf.block k hl (fun e => by have := hS k e; omega)))
theorem RX.keep (h : RX q B w A L) (hb : Below w.heap.size w w1) : RX q B w1 A L := h.frm (S := fun _ => False) (frm_of_below hb) (fun _ e => e.elim)
theorem RX.set (h : RX q B w A L) (i : Nat) (y : Value) : RX q B (w.setCell ⟨q, i, none⟩ y) A L := fun w' hw => h w' (fun k hk hq hl => (hw k hk hq (by simpa [World.setCell] using hl)).trans (Below.heap_setCell _ _ _ _ hq))
theorem RX.of_rb {B1 : Nat} (h : RB B1 w A L) (hB : B ≤ B1) (hq : q < B1) : RX q B w A L := fun w' hw => h w' (fun k hk hl => hw k (by omega) (by omega) hl)
theorem RX.first (h : RB B w A L) (o : Obj) : RX w.heap.size B (w.alloc o) A L := fun w' hw => h w' (fun k hk hl => (hw k hk (by omega) (by simp; omega)).trans (Below.heap_alloc _ _ _ hl))
end
/-- The sketch at t holds s'; the document's answer, in the box q, holds s; a prefix lies in the box bp. -/
structure PlK (w1 : World) (B0 t q bp : Nat) (S : Nat → Prop) (A : Option Addr) (c : Nat) (s s' : Sk) (p : Pf) (wr : World) : Prop where
  sk : SkS wr t S s'
  lo : ∀ b, S b → w1.heap.size ≤ b ∧ b < B0
  bx : wr.heap[q]? = some (.cells #[.slice A s.n c] 33 (0, 0))
  zb : B0 ≤ q
  rb : RX q B0 wr A s.rows
  pb : PB wr bp p
  zp : bp < w1.heap.size
  z0 : w1.heap.size ≤ B0
  bl : Below w1.heap.size w1 wr
section
variable {w1 wr w2 : World} {B0 t q bp c : Nat} {S : Nat → Prop} {A : Option Addr} {s s' : Sk} {p : Pf}
theorem PlK.keep (h : PlK w1 B0 t q bp S A c s s' p wr) (hb : Below wr.heap.size wr w2) : PlK w1 B0 t q bp S A c s s' p w2 :=
  ⟨h.sk.keep hb, h.lo, (hb.block _ (lt_of_block h.bx)).trans h.bx, h.zb, h.rb.keep hb, h.pb.keep hb, h.zp, h.z0, h.bl.trans (hb.mono h.bl.size)⟩
theorem PlK.mid {s2 : Sk} (h : PlK w1 B0 t q bp S A c s s' p wr) (g1 : SkS w2 t S s2) (g2 : Frm S wr w2) : PlK w1 B0 t q bp S A c s s2 p w2 :=
  ⟨g1, h.lo, (g2.block _ (lt_of_block h.bx) (fun e => by have := h.lo _ e; have := h.zb; omega)).trans h.bx, h.zb, h.rb.frm g2 (fun b hb => (h.lo b hb).2), (g2.block _ (lt_of_block h.pb) (fun e => by have := h.lo _ e; have := h.zp; omega)).trans h.pb, h.zp, h.z0, h.bl.trans (g2.below (fun b hb => (h.lo b hb).1) h.bl.size)⟩
/-- The document's answer of now is laid into its box. -/
theorem PlK.fin {A' : Option Addr} {c' : Nat} (h : PlK w1 B0 t q bp S A c s s' p wr) (hb : Below wr.heap.size wr w2) (hR : RX q B0 w2 A' s'.rows) : PlK w1 B0 t q bp S A' c' s' s' p (w2.setCell ⟨q, 0, none⟩ (.slice A' s'.n c')) := by
  have hk := h.keep hb
  have hz := h.zb
  have hz0 := h.z0
  have hzp := h.zp
  have hF : Frm (fun b => b = q) w2 (w2.setCell ⟨q, 0, none⟩ (.slice A' s'.n c')) := Frm.setCell (S := fun b => b = q) (Frm.refl _ _) (p := ⟨q, 0, none⟩) (.inl rfl) _
  exact ⟨hk.sk.frm hF (fun b hS e => by have := h.lo b hS; omega), h.lo, heap_setCell_same _ q 0 _ _ _ hk.bx, h.zb, hR.set 0 _, (hF.block _ (lt_of_block hk.pb) (fun e => by omega)).trans hk.pb, h.zp, h.z0, hk.bl.trans (hF.below (fun b e => by omega) hk.bl.size)⟩
/-- What a step of the document's answer leaves. -/
theorem PlK.step {W w7 : World} {A' : Option Addr} {s2 : Sk} (h : PlK w1 B0 t q bp S A c s s' p wr) (hW : Below wr.heap.size wr W) (h7 : A' = A ∧ s2 = s ∨ RB W.heap.size w7 A' s2.rows) (hx : Below wr.heap.size wr w2) (hs : w7.heap.size ≤ w2.heap.size) (hk : ∀ k, W.heap.size ≤ k → k < w7.heap.size → w2.heap[k]? = w7.heap[k]?) : RX q B0 w2 A' s2.rows := by
  rcases h7 with ⟨rfl, rfl⟩ | h7
  · exact h.rb.keep hx
  · have z1 := lt_of_block h.bx
    have z2 := hW.size
    have z3 := h.zb
    exact fun w' hw => h7 w' (fun k a b => (hw k (by omega) (by omega) (by omega)).trans (hk k a b))
end
theorem skadd_same {w : World} {t : Nat} {S : Nat → Prop} {s : Sk} (h : SkS w t S s) (p : Pf) : Calls Try.prog 13 #[.pointer (some ⟨t, 0, none⟩), .agg #[.int .u64 (u p.a.hi), .int .u64 (u p.a.lo), .bool p.a.v6, .int .i64 p.n]] w fun e w' => e = .returned (.bool (s.does p)) ∧ SkS w' t S (s.add p) ∧ Frm S w w' := by
  cases hs : psane p
  · refine (add_no11 w _ p (fun W _ => places_no W _ p hs)).mono ?_
    rintro e w' ⟨rfl, hb⟩
    refine ⟨by unfold Sk.does; rw [hs]; rfl, ?_, frm_of_below hb⟩
    unfold Sk.add
    rw [hs, if_neg (by simp)]
    exact h.keep hb
  · obtain ⟨v, g, rfl, hk, h⟩ := h
    refine (add_yes11 w t v g s h hk p hs).mono ?_
    rintro e w' ⟨rfl, h1, h2⟩
    refine ⟨by unfold Sk.does; rw [hs]; rfl, ⟨v, g, ?_, Sk.add_ok hk p, ?_⟩, h2⟩
    · rw [add_n]
    · unfold Sk.add
      rw [if_pos hs]
      exact h1
theorem skrows_n {w : World} {t : Nat} {S : Nat → Prop} {s : Sk} (h : SkS w t S s) : Calls Try.prog 18 #[.pointer (some ⟨t, 0, none⟩)] w fun e w' => ∃ A c, e = .returned (.slice A s.n c) ∧ RR KN w' A s.rows ∧ Below w.heap.size w w' :=
  (skrows_any w t S s h).mono fun _ _ ⟨A, c, he, hr, hb⟩ => ⟨A, c, by rw [he, Sk.rows_len], hr, hb⟩
theorem skdecay_same {w : World} {t : Nat} {S : Nat → Prop} {s : Sk} (h : SkS w t S s) : Calls Try.prog 11 #[.pointer (some ⟨t, 0, none⟩)] w fun e w' => e = .returned (.tuple #[]) ∧ SkS w' t S s.dec ∧ Frm S w w' := by
  obtain ⟨v, g, rfl, hk, h⟩ := h
  refine (decay_any w t v g s h hk).mono ?_
  rintro e w' ⟨rfl, h1, h2⟩
  exact ⟨rfl, ⟨v, g, rfl, Sk.decJ_ok hk _ _, h1⟩, h2⟩
theorem keepK {W w' : World} {q g o : Nat} {c0 d1 d2 d3 d4 : Value} (hb : Below W.heap.size W w') (hq : q < W.heap.size) (hg : g < W.heap.size) (x0 : W.cell? ⟨q, 0, none⟩ = some c0) (y1 : W.cell? ⟨g, o + 1, none⟩ = some d1) (y2 : W.cell? ⟨g, o + 2, none⟩ = some d2) (y3 : W.cell? ⟨g, o + 3, none⟩ = some d3) (y4 : W.cell? ⟨g, o + 4, none⟩ = some d4) :
    w'.cell? ⟨q, 0, none⟩ = some c0 ∧ w'.cell? ⟨g, o + 1, none⟩ = some d1 ∧ w'.cell? ⟨g, o + 2, none⟩ = some d2 ∧ w'.cell? ⟨g, o + 3, none⟩ = some d3 ∧ w'.cell? ⟨g, o + 4, none⟩ = some d4 ∧ Below W.heap.size W w' :=
  ⟨(hb.cell (p := ⟨q, 0, none⟩) hq).trans x0, (hb.cell (p := ⟨g, o + 1, none⟩) hg).trans y1, (hb.cell (p := ⟨g, o + 2, none⟩) hg).trans y2, (hb.cell (p := ⟨g, o + 3, none⟩) hg).trans y3, (hb.cell (p := ⟨g, o + 4, none⟩) hg).trans y4, hb⟩
theorem keepP {W w' : World} {q b : Nat} {c0 p0 p1 p2 p3 : Value} (hb : Below W.heap.size W w') (hq : q < W.heap.size) (hg : b < W.heap.size) (x0 : W.cell? ⟨q, 0, none⟩ = some c0) (y0 : W.cell? ⟨b, 0, none⟩ = some p0) (y1 : W.cell? ⟨b, 1, none⟩ = some p1) (y2 : W.cell? ⟨b, 2, none⟩ = some p2) (y3 : W.cell? ⟨b, 3, none⟩ = some p3) :
    w'.cell? ⟨q, 0, none⟩ = some c0 ∧ w'.cell? ⟨b, 0, none⟩ = some p0 ∧ w'.cell? ⟨b, 1, none⟩ = some p1 ∧ w'.cell? ⟨b, 2, none⟩ = some p2 ∧ w'.cell? ⟨b, 3, none⟩ = some p3 ∧ Below W.heap.size W w' :=
  ⟨(hb.cell (p := ⟨q, 0, none⟩) hq).trans x0, (hb.cell (p := ⟨b, 0, none⟩) hg).trans y0, (hb.cell (p := ⟨b, 1, none⟩) hg).trans y1, (hb.cell (p := ⟨b, 2, none⟩) hg).trans y2, (hb.cell (p := ⟨b, 3, none⟩) hg).trans y3, hb⟩
theorem keepKP {W w' : World} {q g o b : Nat} {c0 d1 d2 d3 d4 p0 p1 p2 p3 : Value} (hb : Below W.heap.size W w') (hq : q < W.heap.size) (hg : g < W.heap.size) (hbz : b < W.heap.size) (x0 : W.cell? ⟨q, 0, none⟩ = some c0) (y1 : W.cell? ⟨g, o + 1, none⟩ = some d1) (y2 : W.cell? ⟨g, o + 2, none⟩ = some d2) (y3 : W.cell? ⟨g, o + 3, none⟩ = some d3) (y4 : W.cell? ⟨g, o + 4, none⟩ = some d4) (z0 : W.cell? ⟨b, 0, none⟩ = some p0) (z1 : W.cell? ⟨b, 1, none⟩ = some p1) (z2 : W.cell? ⟨b, 2, none⟩ = some p2) (z3 : W.cell? ⟨b, 3, none⟩ = some p3) :
    w'.cell? ⟨q, 0, none⟩ = some c0 ∧ w'.cell? ⟨g, o + 1, none⟩ = some d1 ∧ w'.cell? ⟨g, o + 2, none⟩ = some d2 ∧ w'.cell? ⟨g, o + 3, none⟩ = some d3 ∧ w'.cell? ⟨g, o + 4, none⟩ = some d4 ∧ w'.cell? ⟨b, 0, none⟩ = some p0 ∧ w'.cell? ⟨b, 1, none⟩ = some p1 ∧ w'.cell? ⟨b, 2, none⟩ = some p2 ∧ w'.cell? ⟨b, 3, none⟩ = some p3 ∧ Below W.heap.size W w' :=
  ⟨(hb.cell (p := ⟨q, 0, none⟩) hq).trans x0, (hb.cell (p := ⟨g, o + 1, none⟩) hg).trans y1, (hb.cell (p := ⟨g, o + 2, none⟩) hg).trans y2, (hb.cell (p := ⟨g, o + 3, none⟩) hg).trans y3, (hb.cell (p := ⟨g, o + 4, none⟩) hg).trans y4, (hb.cell (p := ⟨b, 0, none⟩) hbz).trans z0, (hb.cell (p := ⟨b, 1, none⟩) hbz).trans z1, (hb.cell (p := ⟨b, 2, none⟩) hbz).trans z2, (hb.cell (p := ⟨b, 3, none⟩) hbz).trans z3, hb⟩

end Go.Proofs.Ytpigdjlanabacaa
