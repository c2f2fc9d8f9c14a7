/-
  SketchNone: for every input the call returns true, and each argument reads afterwards as it read before. No condition.
-/
import Derived.Test.YtpigdjlanabacaaX2
import Derived.Test.YtpigdjlanabacaaRowP
namespace Go.Proofs.Ytpigdjlanabacaa
open Go.RowKit
set_option maxRecDepth 100000

/-- A sketch that was not made. -/
def NoSk (w : World) (P : Option Addr) : Prop := P = none ∨ ∃ t, P = some ⟨t, 0, none⟩ ∧ w.heap[t]? = some (.cells #[.slice none 0 0] 49 (0, 0))
theorem NoSk.keep {w w' : World} {P : Option Addr} (h : NoSk w P) (hb : Below w.heap.size w w') : NoSk w' P := by
  rcases h with h | ⟨t, h, ht⟩
  · exact .inl h
  · exact .inr ⟨t, h, (hb.block t (lt_of_block ht)).trans ht⟩
theorem noall_any (w : World) (P : Option Addr) (h : NoSk w P) : Calls Try.prog 22 #[.pointer P] w fun e w' => e = .returned (.slice none 0 0) ∧ w = w' := by
  rcases h with rfl | ⟨t, rfl, ht⟩
  · exact nall_any w
  · exact all_any w t (.slice none 0 0) (fun _ => 0) ⟨0, 1, fun _ _ => 0⟩ ⟨ht, World.ownsRow_nil _ _ _ _, fun i hi => by simp at hi, fun i j hi => by simp at hi, fun i hi => by simp at hi⟩
set_option maxHeartbeats 1000000 in
theorem noplaces_any (w : World) (P : Option Addr) (p : Pf) (h : NoSk w P) : Calls Try.prog 23 #[.pointer P, .agg #[.int .u64 (u p.a.hi), .int .u64 (u p.a.lo), .bool p.a.v6, .int .i64 p.n]] w fun e w' => e = .returned (.slice none 0 0) ∧ Below w.heap.size w w' := by
  cases hs : psane p
  · exact places_no w P p hs
  · have hg := fun W => good_any ⟨p, 0⟩ W
    simp only [rgood_zero, hs] at hg
    have HG := Lib.hid hg
    have HN := Lib.hid h
    clear hg hs h
    go_enter Try.func23, Try.ntmps23
    go_wp2_with fail
    refine (HG.out _).mono ?_
    rintro e w1 ⟨rfl, b1⟩
    have b2 := below_of (w := w) (by go_grown) b1
    have HN1 := Lib.hid (HN.out.keep b2)
    clear b1
    go_wp2_with fail
    refine (noall_any _ _ HN1.out).mono ?_
    rintro e w3 ⟨rfl, rfl⟩
    go_wp2_with fail
    go_loopw [5, 15] (fun x i wr => x = .slice none 0 0 ∧ i = .int .i64 0 ∧ w1 = wr) (fun _ i _ => 0)
    case atStart => exact ⟨rfl, rfl, rfl⟩
    case round =>
      obtain ⟨rfl, rfl, rfl⟩ := hrel
      go_wp2
      go_ret
      exact ⟨rfl, b2⟩
theorem nadd_any (w : World) (P : Option Addr) (p : Pf) (h : NoSk w P) : Calls Try.prog 13 #[.pointer P, .agg #[.int .u64 (u p.a.hi), .int .u64 (u p.a.lo), .bool p.a.v6, .int .i64 p.n]] w fun e w' => e = .returned (.bool false) ∧ Below w.heap.size w w' := add_no11 w _ p (fun W hW => noplaces_any W P p (h.keep hW))
theorem ncount_any (w : World) (P : Option Addr) (p : Pf) (h : NoSk w P) : Calls Try.prog 15 #[.pointer P, .agg #[.int .u64 (u p.a.hi), .int .u64 (u p.a.lo), .bool p.a.v6, .int .i64 p.n]] w fun e w' => e = .returned (.int .i64 0) ∧ Below w.heap.size w w' := count_no w _ p (fun W hW => (noplaces_any W P p (h.keep hW)).mono fun _ _ ⟨h1, h2⟩ => ⟨_, _, h1, h2⟩)
theorem ndecay_any (w : World) (P : Option Addr) (h : NoSk w P) : Calls Try.prog 11 #[.pointer P] w fun e w' => e = .returned (.tuple #[]) ∧ w = w' := by
  have HN := Lib.hid (noall_any w P h)
  clear h
  go_enter Try.func11, Try.ntmps11
  go_wp2_with fail
  refine HN.out.mono ?_
  rintro e w3 ⟨rfl, rfl⟩
  go_wp2_with fail
  go_loopw [8] (fun i wr => i = .int .i64 0 ∧ w = wr) (fun i _ => 0)
  case atStart => exact ⟨rfl, rfl⟩
  case round =>
    obtain ⟨rfl, rfl⟩ := hrel
    go_wp2
    go_end0
    exact ⟨rfl, rfl⟩
theorem nrows_any (w : World) (P : Option Addr) (h : NoSk w P) : Calls Try.prog 18 #[.pointer P] w fun e w' => e = .returned (.slice none 0 0) ∧ w = w' := by
  have HN := Lib.hid (noall_any w P h)
  clear h
  go_enter Try.func18, Try.ntmps18
  go_wp2_with fail
  refine HN.out.mono ?_
  rintro e w3 ⟨rfl, rfl⟩
  go_wp2_with fail
  go_loopw [3, 12] (fun x i wr => x = .slice none 0 0 ∧ i = .int .i64 0 ∧ w = wr) (fun _ i _ => 0)
  case atStart => exact ⟨rfl, rfl, rfl⟩
  case round =>
    obtain ⟨rfl, rfl, rfl⟩ := hrel
    go_wp2
    go_ret
    exact ⟨rfl, rfl⟩
/-- The client's own blocks. -/
structure NoR (w : World) (p : Pf) (bp t q : Nat) (wr : World) : Prop where
  hp : wr.heap[bp]? = some (.cells #[.int .u64 (u p.a.hi), .int .u64 (u p.a.lo), .bool p.a.v6, .int .i64 p.n] 27 (0, 0))
  ht : wr.heap[t]? = some (.cells #[.slice none 0 0] 49 (0, 0))
  hq : wr.heap[q]? = some (.cells #[.pointer none, .pointer (some ⟨t, 0, none⟩)] 29 (0, 0))
  hb : Below w.heap.size w wr
theorem NoR.keep {w wr w1 : World} {p : Pf} {bp t q : Nat} (h : NoR w p bp t q wr) (hb : Below wr.heap.size wr w1) : NoR w p bp t q w1 :=
  ⟨(hb.block _ (lt_of_block h.hp)).trans h.hp, (hb.block _ (lt_of_block h.ht)).trans h.ht, (hb.block _ (lt_of_block h.hq)).trans h.hq, h.hb.trans (hb.mono h.hb.size)⟩
set_option maxHeartbeats 2000000 in
theorem none11_law (p : Pf) (w : World) : Calls Try.prog 4 #[.agg #[.int .u64 (u p.a.hi), .int .u64 (u p.a.lo), .bool p.a.v6, .int .i64 p.n]] w fun e w' => e = .returned (.bool true) ∧ Below w.heap.size w w' := by
  go_enter Try.func4, Try.ntmps4
  go_wp2_with fail
  refine (awake11_any _).mono ?_
  rintro e w1 ⟨rfl, b1⟩
  have hp1 : w1.heap[w.heap.size]? = some (.cells #[.int .u64 (u p.a.hi), .int .u64 (u p.a.lo), .bool p.a.v6, .int .i64 p.n] 27 (0, 0)) := (b1.block _ (by simp)).trans (hp_new rfl)
  have b2 := below_of (w := w) (by go_grown) b1
  have HP := Lib.hid hp1
  have HB := Lib.hid b2
  have z1 := b2.size
  clear b1 hp1 b2
  go_wp2_with fail
  generalize hbp : w.heap.size = bp at HP
  generalize ht : w1.heap.size = t
  go_loopw [7] (fun n wr => ∃ k : Nat, k ≤ 2 ∧ n = .int .i64 k ∧ NoR w p bp t (t + 1) wr) (fun n _ => 2 - (intOf n).toNat)
  case atStart =>
    refine ⟨0, by omega, rfl, ⟨?_, ?_, ?_, ?_⟩⟩
    · have hg : Below w1.heap.size w1 ((w1.alloc (.cells #[.slice none 0 0] 49)).alloc (.cells #[.pointer none, .pointer (some ⟨t, 0, none⟩)] 29)) := by go_grown
      exact (hg.block _ (lt_of_block HP.out)).trans HP.out
    · subst ht; exact hp_old (by simp) (hp_new rfl)
    · subst ht; exact hp_new (by simp)
    · exact (HB.out.alloc z1 _).alloc (by simp; omega) _
  case round =>
    obtain ⟨k, hk, rfl, h2⟩ := hrel
    have H2 := Lib.hid h2
    clear h2
    generalize t + 1 = q at H2
    clear HP hbp ht HB z1
    obtain rfl | rfl | rfl : k = 0 ∨ k = 1 ∨ k = 2 := by omega
    · have p1 : wr.cell? ⟨q, 0, none⟩ = some (.pointer none) := by rw [cell_row H2.out.hq]; rfl
      have hns : NoSk wr none := .inl rfl
      go_wp2_with fail
      refine (ndecay_any _ _ hns).mono ?_
      rintro e w5 ⟨rfl, rfl⟩
      have C1 : Hid (∀ x : Later wr.heap.size wr, Calls Try.prog 13 #[.pointer none, .agg #[.int .u64 (u p.a.hi), .int .u64 (u p.a.lo), .bool p.a.v6, .int .i64 p.n]] x.at fun e w' => e = .returned (.bool false) ∧ Below x.at.heap.size x.at w') := Lib.hid (fun x => nadd_any _ _ p (hns.keep x.below))
      have C2 : Hid (∀ x : Later wr.heap.size wr, Calls Try.prog 15 #[.pointer none, .agg #[.int .u64 (u p.a.hi), .int .u64 (u p.a.lo), .bool p.a.v6, .int .i64 p.n]] x.at fun e w' => e = .returned (.int .i64 0) ∧ Below x.at.heap.size x.at w') := Lib.hid (fun x => ncount_any _ _ p (hns.keep x.below))
      have C3 : Hid (∀ x : Later wr.heap.size wr, Calls Try.prog 18 #[.pointer none] x.at fun e w' => e = .returned (.slice none 0 0) ∧ x.at = w') := Lib.hid (fun x => nrows_any _ _ (hns.keep x.below))
      have zq := lt_of_block H2.out.hq
      have zp := lt_of_block H2.out.hp
      have Q0 := fun x : Later wr.heap.size wr => (x.cell (p := ⟨q, 0, none⟩) zq).trans p1
      have P0 := fun x : Later wr.heap.size wr => (x.cell (p := ⟨bp, 0, none⟩) zp).trans (show _ = some (.int .u64 (u p.a.hi)) by rw [cell_row H2.out.hp]; rfl)
      have P1 := fun x : Later wr.heap.size wr => (x.cell (p := ⟨bp, 1, none⟩) zp).trans (show _ = some (.int .u64 (u p.a.lo)) by rw [cell_row H2.out.hp]; rfl)
      have P2 := fun x : Later wr.heap.size wr => (x.cell (p := ⟨bp, 2, none⟩) zp).trans (show _ = some (.bool p.a.v6) by rw [cell_row H2.out.hp]; rfl)
      have P3 := fun x : Later wr.heap.size wr => (x.cell (p := ⟨bp, 3, none⟩) zp).trans (show _ = some (.int .i64 p.n) by rw [cell_row H2.out.hp]; rfl)
      clear hns p1
      go_wp2_with fail
      refine region_later wr.heap.size (by kernel_rfl) (by kernel_rfl) ?_
      repeat (go_big_quiet_step (first | (go_at_call 13; with_reducible exact later_of (Nat.le_refl _) (C1.out _)) | (go_at_call 15; with_reducible exact later_of (Nat.le_refl _) (C2.out _)) | (go_at_call 18; with_reducible exact later_same (C3.out _))))
      refine wpQuiet_nil ?_
      intro x
      have hx := x.below
      have H3 := Lib.hid (H2.out.keep hx)
      clear Q0 P0 P1 P2 P3 C1 C2 C3 zq zp
      generalize x.at = w6 at *
      clear x hx
      go_wp2
      go_roundw
      case rel => exact ⟨1, by omega, by go_num, H3.out⟩
      case measure => simp [intOf]
    · have p1 : wr.cell? ⟨q, 1, none⟩ = some (.pointer (some ⟨t, 0, none⟩)) := by rw [cell_row H2.out.hq]; rfl
      have hns : NoSk wr (some ⟨t, 0, none⟩) := .inr ⟨t, rfl, H2.out.ht⟩
      go_wp2_with fail
      refine (ndecay_any _ _ hns).mono ?_
      rintro e w5 ⟨rfl, rfl⟩
      have C1 : Hid (∀ x : Later wr.heap.size wr, Calls Try.prog 13 #[.pointer (some ⟨t, 0, none⟩), .agg #[.int .u64 (u p.a.hi), .int .u64 (u p.a.lo), .bool p.a.v6, .int .i64 p.n]] x.at fun e w' => e = .returned (.bool false) ∧ Below x.at.heap.size x.at w') := Lib.hid (fun x => nadd_any _ _ p (hns.keep x.below))
      have C2 : Hid (∀ x : Later wr.heap.size wr, Calls Try.prog 15 #[.pointer (some ⟨t, 0, none⟩), .agg #[.int .u64 (u p.a.hi), .int .u64 (u p.a.lo), .bool p.a.v6, .int .i64 p.n]] x.at fun e w' => e = .returned (.int .i64 0) ∧ Below x.at.heap.size x.at w') := Lib.hid (fun x => ncount_any _ _ p (hns.keep x.below))
      have C3 : Hid (∀ x : Later wr.heap.size wr, Calls Try.prog 18 #[.pointer (some ⟨t, 0, none⟩)] x.at fun e w' => e = .returned (.slice none 0 0) ∧ x.at = w') := Lib.hid (fun x => nrows_any _ _ (hns.keep x.below))
      have zq := lt_of_block H2.out.hq
      have zp := lt_of_block H2.out.hp
      have Q0 := fun x : Later wr.heap.size wr => (x.cell (p := ⟨q, 1, none⟩) zq).trans p1
      have P0 := fun x : Later wr.heap.size wr => (x.cell (p := ⟨bp, 0, none⟩) zp).trans (show _ = some (.int .u64 (u p.a.hi)) by rw [cell_row H2.out.hp]; rfl)
      have P1 := fun x : Later wr.heap.size wr => (x.cell (p := ⟨bp, 1, none⟩) zp).trans (show _ = some (.int .u64 (u p.a.lo)) by rw [cell_row H2.out.hp]; rfl)
      have P2 := fun x : Later wr.heap.size wr => (x.cell (p := ⟨bp, 2, none⟩) zp).trans (show _ = some (.bool p.a.v6) by rw [cell_row H2.out.hp]; rfl)
      have P3 := fun x : Later wr.heap.size wr => (x.cell (p := ⟨bp, 3, none⟩) zp).trans (show _ = some (.int .i64 p.n) by rw [cell_row H2.out.hp]; rfl)
      clear hns p1
      go_wp2_with fail
      refine region_later wr.heap.size (by kernel_rfl) (by kernel_rfl) ?_
      repeat (go_big_quiet_step (first | (go_at_call 13; with_reducible exact later_of (Nat.le_refl _) (C1.out _)) | (go_at_call 15; with_reducible exact later_of (Nat.le_refl _) (C2.out _)) | (go_at_call 18; with_reducible exact later_same (C3.out _))))
      refine wpQuiet_nil ?_
      intro x
      have hx := x.below
      have H3 := Lib.hid (H2.out.keep hx)
      clear Q0 P0 P1 P2 P3 C1 C2 C3 zq zp
      generalize x.at = w6 at *
      clear x hx
      go_wp2
      go_roundw
      case rel => exact ⟨2, by omega, by go_num, H3.out⟩
      case measure => simp [intOf]
    · go_wp2
      go_ret
      exact ⟨rfl, H2.out.hb⟩

end Go.Proofs.Ytpigdjlanabacaa

namespace Go.Proofs.Ytpigdjlanabacaa
open Go.ChangeShapes Go.WideShapes Go.ChangeAt Go.RowKit

set_option maxRecDepth 100000 in
theorem sketchNone_lifted (os : Os) (started : os.Started) (H : Type) (enc : TypeId × Value → H) :
    ReturnsInHanded {} Try.checked os 4 .any (Rows.sketchNoneSpec.pre6 enc Try.prog Try.f4 Rows.sketchNoneRow.domain false) (Rows.sketchNoneSpec.post enc Try.prog Try.f4 false true false false) := by
  refine returnsInHanded_of_change (C := Try.checked) own started (by kernel_rfl) Try.func4
    (ChangeSpec.witness6 (enc := enc) (C := Try.checked) false ⟨#[], #[.agg #[.int .u64 0, .int .u64 0, .bool false, .int .i64 0]], []⟩ 8 (by kernel_rfl) (by kernel_rfl) (by kernel_rfl) (by kernel_rfl)) ?_
  intro W base args ds gs before hval0 hW hcnd _
  have hval : ∀ (j : Nat) t v, Try.f4.params[j]? = some t → args[j]? = some v → Value.okWide Try.prog W .any base t v := hval0
  have hW' := hW
  obtain ⟨p, q, hA0, hV, rfl, hfz, hnd⟩ := hW
  have hA : DataW.TrodAll enc Try.prog W 0 (fun _ => true) true Try.f4.params.toList args.toList ds p := hA0
  rw [Try.params4] at hA hval
  obtain ⟨v0, vs0, d0, ds0, p0, q0, hargs, rfl, rfl, h0, r0⟩ := trodAll_cons hA
  obtain ⟨rfl, rfl, rfl⟩ := trodAll_nil r0
  obtain rfl : args = #[v0] := by cases args; simp_all
  obtain ⟨rfl, rfl⟩ := trodVars_none hV
  have lt0 : ∀ x ∈ p0, x.block < W.heap.size := by obtain ⟨m, hm⟩ := h0; exact DataW.trod_lt m _ _ _ hm
  obtain ⟨a0, rfl, w0⟩ := open_pf (hval 0 27 v0 rfl rfl) h0
  clear hA0 hval0
  refine (none11_law a0 W).mono fun e W' ⟨he, bel⟩ => ?_
  subst he
  exact ⟨_, rfl, _, _, _, [], _, [], hW', trodAll_mk1 (shut_bool Try.underlying4 _), (trodAll_cons_mk (Below.trod laidOut (by kernel_rfl) (of_decide_eq_true (by kernel_rfl)) h0 bel lt0) trodAll_mk0), rfl, bel.frame _, fun h => by cases h⟩

theorem sketchNone_holds : Rows.SketchNoneSaid :=
  OpenClaim.holds_of_wide 4 Try.f4 rfl rfl rfl rfl rfl rfl rfl ⟨rfl, rfl, rfl, rfl, rfl⟩ rfl rfl rfl rfl rfl (by kernel_rfl) Try.func4 (by kernel_rfl)
    (of_decide_eq_true (by kernel_rfl)) (by unfold Func.isWrapper; first | (rw [if_pos (by decide +kernel)]; kernel_rfl) | (rw [if_neg (by decide +kernel)]; exact ⟨rfl, rfl⟩))
    (fun os started H enc _ => sketchNone_lifted os started H enc)

end Go.Proofs.Ytpigdjlanabacaa
