/-
  TrieNone: for every input the call returns true, and each argument reads afterwards as it read before. No condition.
-/
import Derived.Test.YtnepmlhbheaonaaE1
import Derived.Test.YtnepmlhbheaonaaF1
import Derived.Test.YtnepmlhbheaonaaQf
import Derived.Deep.RegionHeld3
import Derived.Deep.DeepCutAuto
import Derived.Test.YtnepmlhbheaonaaRowP
namespace Go.Proofs.Ytnepmlhbheaonaa
open Go.RowKit
set_option maxRecDepth 100000

/-- A pointer to no tree that was made. -/
def NoTrie (w : World) (tv : Value) : Prop := tv = .pointer none ∨ ∃ t, tv = .pointer (some ⟨t, 0, none⟩) ∧ t < w.heap.size ∧ w.cell? ⟨t, 0, none⟩ = some (.slice none 0 0) ∧ w.cell? ⟨t, 1, none⟩ = some (.slice none 0 0) ∧ w.cell? ⟨t, 2, none⟩ = some (.int .i64 0)
theorem NoTrie.keep {B : Nat} {w w' : World} {tv : Value} (h : NoTrie w tv) (hb : Below B w w') (hB : w.heap.size ≤ B) : NoTrie w' tv := by
  rcases h with rfl | ⟨t, rfl, ht, c0, c1, c2⟩
  · exact .inl rfl
  · have h' : t < B := Nat.lt_of_lt_of_le ht hB
    exact .inr ⟨t, rfl, Nat.lt_of_lt_of_le ht hb.size, (hb.cell (p := ⟨t, 0, none⟩) h').trans c0, (hb.cell (p := ⟨t, 1, none⟩) h').trans c1, (hb.cell (p := ⟨t, 2, none⟩) h').trans c2⟩

section
variable {w : World} {tv : Value}
set_option maxHeartbeats 400000 in
theorem made_un (h : NoTrie w tv) : Calls Try.prog 80 #[tv] w fun e w' => e = .returned (.bool false) ∧ w = w' := by
  rcases h with rfl | ⟨t, rfl, ht, c0, c1, c2⟩
  all_goals
    go_enter Try.func80, Try.ntmps80
    go_wp2
    go_ret
    exact ⟨rfl, rfl⟩
set_option maxHeartbeats 400000 in
theorem len_un (h : NoTrie w tv) : Calls Try.prog 48 #[tv] w fun e w' => e = .returned (.int .i64 0) ∧ w = w' := by
  rcases h with rfl | ⟨t, rfl, ht, c0, c1, c2⟩
  all_goals
    go_enter Try.func48, Try.ntmps48
    go_wp2
    go_ret
    exact ⟨rfl, rfl⟩
set_option maxHeartbeats 400000 in
theorem slots_un (h : NoTrie w tv) : Calls Try.prog 50 #[tv] w fun e w' => e = .returned (.int .i64 0) ∧ w = w' := by
  rcases h with rfl | ⟨t, rfl, ht, c0, c1, c2⟩
  all_goals
    go_enter Try.func50, Try.ntmps50
    go_wp2
    go_ret
    exact ⟨rfl, rfl⟩
set_option maxHeartbeats 400000 in
theorem nodes_un (h : NoTrie w tv) : Calls Try.prog 49 #[tv] w fun e w' => e = .returned (.int .i64 0) ∧ Below w.heap.size w w' := by
  rcases h with rfl | ⟨t, rfl, ht, c0, c1, c2⟩
  · go_enter Try.func49, Try.ntmps49
    go_wp2
    go_ret
    exact ⟨rfl, Below.refl _ _⟩
  · go_enter Try.func49, Try.ntmps49
    go_wp2_with fail
    go_quiet (fail)
    go_wp2
    go_ret
    exact ⟨rfl, below_drewN (Below.refl _ _) _⟩
set_option maxHeartbeats 400000 in
theorem along_un (h : NoTrie w tv) (p : Pf) (f : Value) :
    Calls Try.prog 78 #[tv, .agg #[.int .u64 (u p.a.hi), .int .u64 (u p.a.lo), .bool p.a.v6, .int .i64 p.n], f] w fun e w' => e = .returned (.tuple #[]) ∧ Below w.heap.size w w' := by
  have HN := Lib.hid h
  clear h
  go_enter Try.func78, Try.ntmps78
  go_wp2_with fail
  refine (made_un (HN.out.keep (B := w.heap.size) (by go_grown) (Nat.le_refl _))).mono ?_
  rintro e w1 ⟨rfl, rfl⟩
  go_wp2
  exact bodyPost_ret (v := .tuple #[]) (by simp [*, results, Try.results78, go_sem] <;> rfl) rfl ⟨rfl, by go_grown⟩
set_option maxHeartbeats 1000000 in
theorem at_un (h : NoTrie w tv) (p : Pf) :
    Calls Try.prog 77 #[tv, .agg #[.int .u64 (u p.a.hi), .int .u64 (u p.a.lo), .bool p.a.v6, .int .i64 p.n]] w fun e w' => e = .returned (.tuple #[.int .i64 0, .bool false]) ∧ Below w.heap.size w w' := by
  have HN := Lib.hid h
  clear h
  go_enter Try.func77, Try.ntmps77
  go_wp2_with fail
  refine (along_un (HN.out.keep (B := w.heap.size) (by go_grown) (Nat.le_refl _)) p _).mono ?_
  rintro e w1 ⟨rfl, hw1⟩
  have b1 : Below w.heap.size w w1 := below_of (by go_grown) hw1
  have c1 : w1.cell? ⟨w.heap.size + 1, 0, none⟩ = some (.int .i64 0) := (hw1.cell (by go_size)).trans (by go_simp <;> rfl)
  have c2 : w1.cell? ⟨w.heap.size + 1 + 1, 0, none⟩ = some (.bool false) := (hw1.cell (by go_size)).trans (by go_simp <;> rfl)
  clear hw1
  go_wp2_with fail
  go_quiet (fail)
  go_wp2
  go_ret2
  exact ⟨rfl, below_drewN b1 _⟩
set_option maxHeartbeats 1000000 in
theorem get_un (h : NoTrie w tv) (p : Pf) :
    Calls Try.prog 41 #[tv, .agg #[.int .u64 (u p.a.hi), .int .u64 (u p.a.lo), .bool p.a.v6, .int .i64 p.n]] w fun e w' => e = .returned (.tuple #[.int .i64 0, .bool false]) ∧ Below w.heap.size w w' := by
  have HN := Lib.hid h
  clear h
  go_enter Try.func41, Try.ntmps41
  go_wp2_with fail
  refine (at_un (HN.out.keep (B := w.heap.size) (by go_grown) (Nat.le_refl _)) p).mono ?_
  rintro e w1 ⟨rfl, hw1⟩
  have b1 : Below w.heap.size w w1 := below_of (by go_grown) hw1
  go_wp2
  go_ret2
  exact ⟨rfl, b1⟩
set_option maxHeartbeats 1000000 in
theorem inside_un (h : NoTrie w tv) (p : Pf) :
    Calls Try.prog 47 #[tv, .agg #[.int .u64 (u p.a.hi), .int .u64 (u p.a.lo), .bool p.a.v6, .int .i64 p.n]] w fun e w' => e = .returned (.bool false) ∧ Below w.heap.size w w' := by
  have HN := Lib.hid h
  clear h
  go_enter Try.func47, Try.ntmps47
  go_wp2_with fail
  refine (at_un (HN.out.keep (B := w.heap.size) (by go_grown) (Nat.le_refl _)) p).mono ?_
  rintro e w1 ⟨rfl, hw1⟩
  have b1 : Below w.heap.size w w1 := below_of (by go_grown) hw1
  go_wp2
  go_ret
  exact ⟨rfl, b1⟩
set_option maxHeartbeats 1000000 in
theorem put_un (h : NoTrie w tv) (p : Pf) (v : Int) :
    Calls Try.prog 43 #[tv, .agg #[.int .u64 (u p.a.hi), .int .u64 (u p.a.lo), .bool p.a.v6, .int .i64 p.n], .int .i64 v] w fun e w' => e = .returned (.int .i64 1) ∧ Below w.heap.size w w' := by
  have HN := Lib.hid h
  clear h
  go_enter Try.func43, Try.ntmps43
  go_wp2_with fail
  refine (made_un (HN.out.keep (B := w.heap.size) (by go_grown) (Nat.le_refl _))).mono ?_
  rintro e w1 ⟨rfl, rfl⟩
  go_wp2
  go_ret
  exact ⟨rfl, by go_grown⟩
set_option maxHeartbeats 1000000 in
theorem del_un (h : NoTrie w tv) (p : Pf) :
    Calls Try.prog 44 #[tv, .agg #[.int .u64 (u p.a.hi), .int .u64 (u p.a.lo), .bool p.a.v6, .int .i64 p.n]] w fun e w' => e = .returned (.int .i64 (if psane p = true then 2 else 1)) ∧ Below w.heap.size w w' := by
  have HN := Lib.hid h
  clear h
  cases hp : psane p
  · have hs' : (!psane p) = true := by simp [hp]
    clear hp
    go_enter Try.func44, Try.ntmps44
    go_wp2_with fail
    refine (psane_any p _).mono ?_
    rintro e w2 ⟨rfl, hw2⟩
    have zw2 := hw2.size
    have bw2 := below_of (w := w) (by go_grown) hw2
    try simp at zw2
    obtain ⟨p1a, p1b, p1c, p1g, p1d, p1e, p1f, p1h, p1z⟩ := cells4 (b := w.heap.size) hw2 (by go_size) (by go_simp <;> rfl) (by go_simp <;> rfl) (by go_simp <;> rfl) (by go_simp <;> rfl) (by go_simp <;> rfl) (by go_simp <;> rfl) (by go_simp <;> rfl) (by go_simp <;> rfl)
    clear hw2
    go_wp2
    go_ret
    exact ⟨rfl, bw2⟩
  · have hs' : (!psane p) = false := by simp [hp]
    clear hp
    go_enter Try.func44, Try.ntmps44
    go_wp2_with fail
    refine (psane_any p _).mono ?_
    rintro e w2 ⟨rfl, hw2⟩
    have zw2 := hw2.size
    have bw2 := below_of (w := w) (by go_grown) hw2
    try simp at zw2
    obtain ⟨p2a, p2b, p2c, p2g, p2d, p2e, p2f, p2h, p2z⟩ := cells4 (b := w.heap.size) hw2 (by go_size) (by go_simp <;> rfl) (by go_simp <;> rfl) (by go_simp <;> rfl) (by go_simp <;> rfl) (by go_simp <;> rfl) (by go_simp <;> rfl) (by go_simp <;> rfl) (by go_simp <;> rfl)
    clear hw2
    go_wp2_with fail
    refine (at_un (HN.out.keep bw2 (Nat.le_refl _)) p).mono ?_
    rintro e w1 ⟨rfl, hw1⟩
    have b1 : Below w.heap.size w w1 := bw2.trans (hw1.mono bw2.size)
    go_wp2
    go_ret
    exact ⟨rfl, b1⟩
set_option maxHeartbeats 1000000 in
theorem above_un (h : NoTrie w tv) (p : Pf) :
    Calls Try.prog 45 #[tv, .agg #[.int .u64 (u p.a.hi), .int .u64 (u p.a.lo), .bool p.a.v6, .int .i64 p.n]] w fun e w' => e = .returned (.slice none 0 0) ∧ Below w.heap.size w w' := by
  have HN := Lib.hid h
  rcases h with rfl | ⟨t, rfl, -⟩
  all_goals
    go_enter Try.func45, Try.ntmps45
    go_wp2_with fail
    refine (along_un (HN.out.keep (B := w.heap.size) (by go_grown) (Nat.le_refl _)) p _).mono ?_
    rintro e w1 ⟨rfl, hw1⟩
    have b1 : Below w.heap.size w w1 := below_of (by go_grown) hw1
    have c1 : w1.cell? ⟨w.heap.size + 1 + 1, 0, none⟩ = some (.slice none 0 0) := (hw1.cell (by go_size)).trans (by go_simp <;> rfl)
    clear hw1
    go_wp2
    go_ret
    exact ⟨rfl, b1⟩
set_option maxHeartbeats 1000000 in
theorem under_un (h : NoTrie w tv) (p : Pf) :
    Calls Try.prog 46 #[tv, .agg #[.int .u64 (u p.a.hi), .int .u64 (u p.a.lo), .bool p.a.v6, .int .i64 p.n]] w fun e w' => e = .returned (.slice none 0 0) ∧ Below w.heap.size w w' := by
  have HN := Lib.hid h
  rcases h with rfl | ⟨t, rfl, -⟩
  all_goals
    go_enter Try.func46, Try.ntmps46
    go_wp2_with fail
    refine (at_un (HN.out.keep (B := w.heap.size) (by go_grown) (Nat.le_refl _)) p).mono ?_
    rintro e w1 ⟨rfl, hw1⟩
    have b1 : Below w.heap.size w w1 := below_of (by go_grown) hw1
    go_wp2
    go_ret
    exact ⟨rfl, b1⟩
set_option maxHeartbeats 2000000 in
theorem longest_un (h : NoTrie w tv) (a : Ad) :
    Calls Try.prog 42 #[tv, .agg #[.int .u64 (u a.hi), .int .u64 (u a.lo), .bool a.v6]] w fun e w' => e = .returned (.tuple #[.agg #[.int .u64 0, .int .u64 0, .bool false, .int .i64 0, .int .i64 0], .bool false]) ∧ Below w.heap.size w w' := by
  have HN := Lib.hid h
  obtain ⟨PT, hPT⟩ : ∃ PT : Value, PT = tv := ⟨_, rfl⟩
  have HPT := Lib.hid hPT
  rcases h with rfl | ⟨t, rfl, -⟩
  all_goals
    clear hPT
    go_enter Try.func42, Try.ntmps42
    go_wp2_with fail
    generalize hWW : World.alloc (World.alloc (World.alloc _ _) _) _ = W
    have hB : Below w.heap.size w W := by subst hWW; go_grown
    have cT : W.cell? ⟨w.heap.size, 0, none⟩ = some PT := by rw [HPT.out]; subst hWW; go_simp <;> rfl
    have pa : W.cell? ⟨w.heap.size + 1, 0, none⟩ = some (.int .u64 (u a.hi)) := by subst hWW; go_simp <;> rfl
    have pb : W.cell? ⟨w.heap.size + 1, 1, none⟩ = some (.int .u64 (u a.lo)) := by subst hWW; go_simp <;> rfl
    have pc : W.cell? ⟨w.heap.size + 1, 2, none⟩ = some (.bool a.v6) := by subst hWW; go_simp <;> rfl
    have h3 : W.heap[w.heap.size + 1 + 1]? = some (.cells #[.int .u64 0, .int .u64 0, .bool false, .int .i64 0, .int .i64 0] 90 (0, 0)) := by subst hWW; repeat (first | (refine hp_new ?_; (simp; done)) | (refine hp_old ?_ ?_; · (first | (simp; done) | (simp; omega))))
    have h1 : W.heap[w.heap.size + 1 + 1 + 1]? = some (.cells #[.int .u64 0, .int .u64 0, .bool false, .int .i64 0, .int .i64 0] 90 (0, 0)) := by subst hWW; repeat (first | (refine hp_new ?_; (simp; done)) | (refine hp_old ?_ ?_; · (first | (simp; done) | (simp; omega))))
    have h2 : W.heap[w.heap.size + 1 + 1 + 1 + 1]? = some (.cells #[.bool false] 4 (0, 0)) := by subst hWW; repeat (first | (refine hp_new ?_; (simp; done)) | (refine hp_old ?_ ?_; · (first | (simp; done) | (simp; omega))))
    have z9 := lt_of_block h2
    have zT : w.heap.size < W.heap.size := by omega
    have pz : w.heap.size + 1 < W.heap.size := by omega
    have z0 := hB.size
    clear hWW
    rw [HPT.out] at cT
    have L2 := fun x : Later W.heap.size W => (x.cell zT).trans cT
    have La := fun x : Later W.heap.size W => (x.cell pz).trans pa
    have Lb := fun x : Later W.heap.size W => (x.cell pz).trans pb
    have Lc := fun x : Later W.heap.size W => (x.cell pz).trans pc
    refine region_tail 7 W.heap.size (by kernel_rfl) (by kernel_rfl) ?_
    simp only [List.take_succ_cons, List.take_zero, List.drop_succ_cons, List.drop_zero]
    repeat (go_big_quiet_step (first | (go_at_call 63; exact later_same (width_any _ _)) | (go_at_call 29; exact later_of (Nat.le_refl _) (pof_any _ _ _))))
    refine wpQuiet_nil ?_
    intro x
    have hx := x.below
    generalize x.at = w5 at hx ⊢
    clear x L2 La Lb Lc cT pa pb pc
    go_wp2_with fail
    refine (along_un (HN.out.keep (B := w.heap.size) (hB.trans (hx.mono z0)) (Nat.le_refl _)) _ _).mono ?_
    rintro e w1 ⟨rfl, hw1⟩
    have hz5 := hx.size
    have hbW : Below W.heap.size W w1 := hx.trans (hw1.mono hz5)
    have hb1 := hB.trans (hbW.mono z0)
    replace h1 := (hbW.block _ (by omega)).trans h1
    replace h2 := (hbW.block _ (by omega)).trans h2
    replace h3 := (hbW.block _ (by omega)).trans h3
    have m0 : w1.cell? ⟨w.heap.size + 1 + 1 + 1, 0, none⟩ = some (.int .u64 0) := by rw [cell_row h1]; rfl
    have m1 : w1.cell? ⟨w.heap.size + 1 + 1 + 1, 1, none⟩ = some (.int .u64 0) := by rw [cell_row h1]; rfl
    have m2 : w1.cell? ⟨w.heap.size + 1 + 1 + 1, 2, none⟩ = some (.bool false) := by rw [cell_row h1]; rfl
    have m3 : w1.cell? ⟨w.heap.size + 1 + 1 + 1, 3, none⟩ = some (.int .i64 0) := by rw [cell_row h1]; rfl
    have m4 : w1.cell? ⟨w.heap.size + 1 + 1 + 1, 4, none⟩ = some (.int .i64 0) := by rw [cell_row h1]; rfl
    have r0 : w1.cell? ⟨w.heap.size + 1 + 1, 0, none⟩ = some (.int .u64 0) := by rw [cell_row h3]; rfl
    have r1 : w1.cell? ⟨w.heap.size + 1 + 1, 1, none⟩ = some (.int .u64 0) := by rw [cell_row h3]; rfl
    have r2 : w1.cell? ⟨w.heap.size + 1 + 1, 2, none⟩ = some (.bool false) := by rw [cell_row h3]; rfl
    have r3 : w1.cell? ⟨w.heap.size + 1 + 1, 3, none⟩ = some (.int .i64 0) := by rw [cell_row h3]; rfl
    have r4 : w1.cell? ⟨w.heap.size + 1 + 1, 4, none⟩ = some (.int .i64 0) := by rw [cell_row h3]; rfl
    have q0 := frozen_of_row w1 (w.heap.size + 1 + 1) 0 _ _ h3
    have q1 := frozen_of_row w1 (w.heap.size + 1 + 1) 1 _ _ h3
    have q2 := frozen_of_row w1 (w.heap.size + 1 + 1) 2 _ _ h3
    have q3 := frozen_of_row w1 (w.heap.size + 1 + 1) 3 _ _ h3
    have q4 := frozen_of_row w1 (w.heap.size + 1 + 1) 4 _ _ h3
    have m5 := cell_of_one h2
    replace z9 := lt_of_block h2
    clear h1 h2 h3 hx hbW hw1 hz5
    go_wp2_with fail
    go_region
    all_goals
      go_wp2
      refine bodyPost_ret (v := .tuple #[.agg #[.int .u64 0, .int .u64 0, .bool false, .int .i64 0, .int .i64 0], .bool false]) (by simp [*, results, Try.results42, go_sem] <;> rfl) rfl ⟨rfl, ?_⟩
      refine hb1.trans ?_
      exact ((((((Below.refl _ _).setCell (by simp; omega) _).setCell (by simp; omega) _).setCell (by simp; omega) _).setCell (by simp; omega) _).setCell (by simp; omega) _).drew
end

end Go.Proofs.Ytnepmlhbheaonaa

namespace Go.Proofs.Ytnepmlhbheaonaa
open Go.RowKit
set_option maxRecDepth 100000

theorem keepN {W w' : World} {g c k : Nat} {tv q0 q1 q2 : Value} (h : Below W.heap.size W w') (gz : g < W.heap.size) (cz : c < W.heap.size) (h0 : W.cell? ⟨g, k, none⟩ = some tv) (h1 : W.cell? ⟨c, 0, none⟩ = some q0) (h2 : W.cell? ⟨c, 1, none⟩ = some q1) (h3 : W.cell? ⟨c, 2, none⟩ = some q2) :
    w'.cell? ⟨g, k, none⟩ = some tv ∧ w'.cell? ⟨c, 0, none⟩ = some q0 ∧ w'.cell? ⟨c, 1, none⟩ = some q1 ∧ w'.cell? ⟨c, 2, none⟩ = some q2 ∧ Below W.heap.size W w' :=
  ⟨(h.cell (p := ⟨g, k, none⟩) gz).trans h0, (h.cell (p := ⟨c, 0, none⟩) cz).trans h1, (h.cell (p := ⟨c, 1, none⟩) cz).trans h2, (h.cell (p := ⟨c, 2, none⟩) cz).trans h3, h⟩
set_option maxHeartbeats 8000000 in
/-- The loop over the two. -/
theorem none_law (p : Pf) (a : Ad) (v : Int) (w : World) :
    Calls Try.prog 10 #[.agg #[.int .u64 (u p.a.hi), .int .u64 (u p.a.lo), .bool p.a.v6, .int .i64 p.n], .agg #[.int .u64 (u a.hi), .int .u64 (u a.lo), .bool a.v6], .int .i64 v] w fun e w' => e = .returned (.bool true) ∧ Below w.heap.size w w' := by
  go_enter Try.func10, Try.ntmps10
  go_wp2_with fail
  refine (awake5_any _).mono ?_
  rintro e w1 ⟨rfl, hw1⟩
  have b1 : Below w.heap.size w w1 := below_of (by go_grown) hw1
  have hP1 : PBox w1 w.heap.size p := PBox.keep (by exact ⟨by go_simp <;> rfl, by go_simp <;> rfl, by go_simp <;> rfl, by go_simp <;> rfl, by go_simp <;> rfl, by go_simp <;> rfl, by go_simp <;> rfl, by go_simp <;> rfl, by go_size⟩) hw1
  have hA1 : ABox w1 (w.heap.size + 1) a := ABox.keep ⟨by go_simp <;> rfl, by go_simp <;> rfl, by go_simp <;> rfl, by go_size⟩ hw1
  have y1 : ¬ w.heap.size = w1.heap.size := by have := hA1.2.2.2; omega
  have y2 : w.heap.size < w1.heap.size := by have := hA1.2.2.2; omega
  have HP1 := Lib.hid hP1
  have HA1 := Lib.hid hA1
  obtain ⟨pa, pb, pc, pd, -⟩ := id hP1
  clear hw1 hP1 hA1
  go_upto_region 5 with fail
  have hBW : Below w1.heap.size w1 (w1.alloc (.cells #[.slice none 0 0, .slice none 0 0, .int .i64 0] 85)) := by go_grown
  have hn0 : (w1.alloc (.cells #[.slice none 0 0, .slice none 0 0, .int .i64 0] 85)).cell? ⟨w1.heap.size, 0, none⟩ = some (.slice none 0 0) := by go_simp <;> rfl
  have hn1 : (w1.alloc (.cells #[.slice none 0 0, .slice none 0 0, .int .i64 0] 85)).cell? ⟨w1.heap.size, 1, none⟩ = some (.slice none 0 0) := by go_simp <;> rfl
  have hn2 : (w1.alloc (.cells #[.slice none 0 0, .slice none 0 0, .int .i64 0] 85)).cell? ⟨w1.heap.size, 2, none⟩ = some (.int .i64 0) := by go_simp <;> rfl
  have hnz : w1.heap.size < (w1.alloc (.cells #[.slice none 0 0, .slice none 0 0, .int .i64 0] 85)).heap.size := by go_size
  generalize hWW : World.alloc w1 _ = W5 at hBW hn0 hn1 hn2 hnz ⊢
  have HP5 := Lib.hid (HP1.out.keep hBW)
  have HA5 := Lib.hid (HA1.out.keep hBW)
  have b5 := b1.trans (hBW.mono b1.size)
  have HN5 : Hid (NoTrie W5 (.pointer (some ⟨w1.heap.size, 0, none⟩))) := Lib.hid (.inr ⟨_, rfl, hnz, hn0, hn1, hn2⟩)
  clear hWW hBW hn0 hn1 hn2 hnz HP1 HA1 pa pb pc pd y1 y2 b1
  obtain ⟨pa, pb, pc, pd, -⟩ := id HP5.out
  cases hp : psane p
  · have HE := Lib.hid hp
    have hs' : (!psane p) = true := by simp [hp]
    clear hp
    go_wp2_with fail
    refine (rpsane_any p _).mono ?_
    rintro e w6 ⟨rfl, hb6⟩
    have HP6 := Lib.hid (HP5.out.keep hb6)
    have HA6 := Lib.hid (HA5.out.keep hb6)
    have HN6 := Lib.hid (HN5.out.keep hb6 (Nat.le_refl _))
    have b6 := b5.trans (hb6.mono b5.size)
    clear hb6 HP5 HA5 HN5 pa pb pc pd b5
    go_upto_region 9 with fail
    have hBs : Below w6.heap.size w6 (w6.alloc (.cells #[.pointer none, .pointer (some ⟨w1.heap.size, 0, none⟩)] 29)) := by go_grown
    have hg0 : (w6.alloc (.cells #[.pointer none, .pointer (some ⟨w1.heap.size, 0, none⟩)] 29)).cell? ⟨w6.heap.size, 0, none⟩ = some (.pointer none) := by go_simp <;> rfl
    have hg1 : (w6.alloc (.cells #[.pointer none, .pointer (some ⟨w1.heap.size, 0, none⟩)] 29)).cell? ⟨w6.heap.size, 1, none⟩ = some (.pointer (some ⟨w1.heap.size, 0, none⟩)) := by go_simp <;> rfl
    have hgz : w6.heap.size < (w6.alloc (.cells #[.pointer none, .pointer (some ⟨w1.heap.size, 0, none⟩)] 29)).heap.size := by go_size
    generalize hWS : World.alloc w6 _ = ws at hBs hg0 hg1 hgz ⊢
    have HPS := Lib.hid (HP6.out.keep hBs)
    have HAS := Lib.hid (HA6.out.keep hBs)
    have HNS := Lib.hid (HN6.out.keep hBs (Nat.le_refl _))
    have bS := b6.trans (hBs.mono b6.size)
    have hcd : (if psane p = true then (2 : Int) else 1) = 1 := by rw [HE.out]; exact rfl
    have cD : ∀ (W : World) (tv : Value), NoTrie W tv → Calls Try.prog 44 #[tv, .agg #[.int .u64 (u p.a.hi), .int .u64 (u p.a.lo), .bool p.a.v6, .int .i64 p.n]] W fun e w' => e = .returned (.int .i64 1) ∧ Below W.heap.size W w' := fun W tv hn => by
      have := del_un hn p
      rw [hcd] at this
      exact this
    have CD := Lib.hid cD
    have G0 := Lib.hid hg0
    have G1 := Lib.hid hg1
    clear hWS hBs HP6 HA6 HN6 b6 hcd cD hg0 hg1
    go_loopw [12] (fun i wr => ∃ k : Nat, k ≤ 2 ∧ i = .int .i64 k ∧ Below ws.heap.size ws wr) (fun i _ => 2 - (intOf i).toNat)
    case atStart => exact ⟨0, Nat.zero_le _, rfl, Below.refl _ _⟩
    case round =>
      obtain ⟨k, hk, rfl, hB⟩ := hrel
      obtain ⟨pa, pb, pc, pd, -, -, -, -, pz⟩ := id (HPS.out.keep hB)
      obtain ⟨qa, qb, qc, qz⟩ := id (HAS.out.keep hB)
      have gz : w6.heap.size < wr.heap.size := Nat.lt_of_lt_of_le hgz hB.size
      have hk3 : k = 0 ∨ k = 1 ∨ k = 2 := by omega
      rcases hk3 with rfl | rfl | rfl
      · have cq : wr.cell? ⟨w6.heap.size, 0, none⟩ = some (.pointer none) := (hB.cell (p := ⟨w6.heap.size, 0, none⟩) hgz).trans G0.out
        have HN : Hid (NoTrie wr (.pointer none)) := Lib.hid (.inl rfl)
        obtain ⟨W, rfl⟩ : ∃ W, W = wr := ⟨_, rfl⟩
        have Lq := fun x : Later W.heap.size W => (x.cell gz).trans cq
        have La := fun x : Later W.heap.size W => (x.cell pz).trans pa
        have Lb := fun x : Later W.heap.size W => (x.cell pz).trans pb
        have Lc := fun x : Later W.heap.size W => (x.cell pz).trans pc
        have Ld := fun x : Later W.heap.size W => (x.cell pz).trans pd
        go_wp2_with fail
        refine region_later W.heap.size (by kernel_rfl) (by kernel_rfl) ?_
        repeat (go_big_quiet_step ((go_at_call 41; exact later_of (Nat.le_refl _) (get_un (HN.out.keep (Later.below _) (Nat.le_refl _)) p))))
        refine wpQuiet_nil ?_
        intro x
        have hx := x.below
        generalize x.at = W3 at hx ⊢
        clear x Lq La Lb Lc Ld
        have z3 := hx.size
        have b3 : Below ws.heap.size ws W3 := hB.trans (hx.mono hB.size)
        have HN3 := Lib.hid (HN.out.keep hx (Nat.le_refl _))
        have gz3 : w6.heap.size < W3.heap.size := Nat.lt_of_lt_of_le gz z3
        have pz3 : w.heap.size < W3.heap.size := Nat.lt_of_lt_of_le pz z3
        have qz3 : w.heap.size + 1 < W3.heap.size := Nat.lt_of_lt_of_le qz z3
        have cq3 := (hx.cell gz).trans cq
        have pa3 := (hx.cell pz).trans pa
        have pb3 := (hx.cell pz).trans pb
        have pc3 := (hx.cell pz).trans pc
        have pd3 := (hx.cell pz).trans pd
        have qa3 := (hx.cell qz).trans qa
        have qb3 := (hx.cell qz).trans qb
        have qc3 := (hx.cell qz).trans qc
        clear hx hB HN gz pz qz cq pa pb pc pd qa qb qc z3
        go_upto_region 12 with fail
        obtain ⟨W, rfl⟩ : ∃ W, W = W3 := ⟨_, rfl⟩
        go_cut [16] (fun s wx => s = .bool false ∧ Below W.heap.size W wx)
        case first =>
          go_region_held3 (fun w' => w'.cell? ⟨w6.heap.size, 0, none⟩ = some (.pointer none) ∧ w'.cell? ⟨w.heap.size + 1, 0, none⟩ = some (.int .u64 (u a.hi)) ∧ w'.cell? ⟨w.heap.size + 1, 1, none⟩ = some (.int .u64 (u a.lo)) ∧ w'.cell? ⟨w.heap.size + 1, 2, none⟩ = some (.bool a.v6) ∧ Below W.heap.size W w')
            (first | exact keepN hk5 gz3 qz3 cq3 qa3 qb3 qc3 | (refine keepN ?_ gz3 qz3 cq3 qa3 qb3 qc3; go_grown)) ((go_at_call 42; refine (longest_un (HN3.out.keep (B := W.heap.size) (by go_grown) (Nat.le_refl _)) a).mono ?_; rintro e w5 ⟨rfl, hw5⟩; have hk5 := below_of (w := W) (by go_grown) hw5; have zk5 := hk5.size; (try (refine y5_then (b := W.heap.size) (c0 := .int .u64 0) (c1 := .int .u64 0) (c2 := .bool false) (c3 := .int .i64 0) (c4 := .int .i64 0) hw5 ?_ ?_ ?_ ?_ ?_ ?_ ?_ ?_ ?_ ?_ ?_ (fun y4 => ?_); go_size; go_simp; go_simp; go_simp; go_simp; go_simp; go_simp; go_simp; go_simp; go_simp; go_simp; obtain ⟨ya, yb, yc, yg, yi, yd, ye, yf, yh, yj, yz⟩ := y4))))
          all_goals (go_wp2_with fail; go_meet)
          all_goals exact ⟨rfl, by go_grown⟩
        case rest =>
          obtain ⟨rfl, hb5⟩ := hcut
          obtain ⟨W4, rfl⟩ : ∃ W4, W4 = wc := ⟨_, rfl⟩
          have b4 : Below ws.heap.size ws W4 := b3.trans (hb5.mono b3.size)
          have HN4 := Lib.hid (HN3.out.keep hb5 (Nat.le_refl _))
          have gz := Nat.lt_of_lt_of_le gz3 hb5.size
          have pz := Nat.lt_of_lt_of_le pz3 hb5.size
          have cq := (hb5.cell gz3).trans cq3
          have pa := (hb5.cell pz3).trans pa3
          have pb := (hb5.cell pz3).trans pb3
          have pc := (hb5.cell pz3).trans pc3
          have pd := (hb5.cell pz3).trans pd3
          clear hb5 HN3 gz3 pz3 qz3 cq3 pa3 pb3 pc3 pd3 qa3 qb3 qc3 b3
          obtain ⟨W, rfl⟩ : ∃ W, W = W4 := ⟨_, rfl⟩
          have Lq := fun x : Later W.heap.size W => (x.cell gz).trans cq
          have La := fun x : Later W.heap.size W => (x.cell pz).trans pa
          have Lb := fun x : Later W.heap.size W => (x.cell pz).trans pb
          have Lc := fun x : Later W.heap.size W => (x.cell pz).trans pc
          have Ld := fun x : Later W.heap.size W => (x.cell pz).trans pd
          go_wp2_with fail
          try simp only [List.append_eq, List.cons_append, List.nil_append]
          refine region_later W.heap.size (by kernel_rfl) (by kernel_rfl) ?_
          repeat (go_big_quiet_step (first
            | (go_at_call 43; exact later_of (Nat.le_refl _) (put_un (HN4.out.keep (Later.below _) (Nat.le_refl _)) p v))
            | (go_at_call 44; exact later_of (Nat.le_refl _) (CD.out _ _ (HN4.out.keep (Later.below _) (Nat.le_refl _))))
            | (go_at_call 45; exact later_of (Nat.le_refl _) (above_un (HN4.out.keep (Later.below _) (Nat.le_refl _)) p))
            | (go_at_call 46; exact later_of (Nat.le_refl _) (under_un (HN4.out.keep (Later.below _) (Nat.le_refl _)) p))
            | (go_at_call 47; exact later_of (Nat.le_refl _) (inside_un (HN4.out.keep (Later.below _) (Nat.le_refl _)) p))
            | (go_at_call 48; exact later_same (len_un (HN4.out.keep (Later.below _) (Nat.le_refl _))))
            | (go_at_call 49; exact later_of (Nat.le_refl _) (nodes_un (HN4.out.keep (Later.below _) (Nat.le_refl _))))
            | (go_at_call 50; exact later_same (slots_un (HN4.out.keep (Later.below _) (Nat.le_refl _))))))
          refine wpQuiet_nil ?_
          intro x
          have hx := x.below
          generalize x.at = W5 at hx ⊢
          clear x Lq La Lb Lc Ld
          go_wp2
          go_roundw
          case rel => exact ⟨0 + 1, by omega, by go_num, b4.trans (hx.mono b4.size)⟩
          case measure => simp [intOf]
      · have cq : wr.cell? ⟨w6.heap.size, 1, none⟩ = some (.pointer (some ⟨w1.heap.size, 0, none⟩)) := (hB.cell (p := ⟨w6.heap.size, 1, none⟩) hgz).trans G1.out
        have HN := Lib.hid (HNS.out.keep hB (Nat.le_refl _))
        obtain ⟨W, rfl⟩ : ∃ W, W = wr := ⟨_, rfl⟩
        have Lq := fun x : Later W.heap.size W => (x.cell gz).trans cq
        have La := fun x : Later W.heap.size W => (x.cell pz).trans pa
        have Lb := fun x : Later W.heap.size W => (x.cell pz).trans pb
        have Lc := fun x : Later W.heap.size W => (x.cell pz).trans pc
        have Ld := fun x : Later W.heap.size W => (x.cell pz).trans pd
        go_wp2_with fail
        refine region_later W.heap.size (by kernel_rfl) (by kernel_rfl) ?_
        repeat (go_big_quiet_step ((go_at_call 41; exact later_of (Nat.le_refl _) (get_un (HN.out.keep (Later.below _) (Nat.le_refl _)) p))))
        refine wpQuiet_nil ?_
        intro x
        have hx := x.below
        generalize x.at = W3 at hx ⊢
        clear x Lq La Lb Lc Ld
        have z3 := hx.size
        have b3 : Below ws.heap.size ws W3 := hB.trans (hx.mono hB.size)
        have HN3 := Lib.hid (HN.out.keep hx (Nat.le_refl _))
        have gz3 : w6.heap.size < W3.heap.size := Nat.lt_of_lt_of_le gz z3
        have pz3 : w.heap.size < W3.heap.size := Nat.lt_of_lt_of_le pz z3
        have qz3 : w.heap.size + 1 < W3.heap.size := Nat.lt_of_lt_of_le qz z3
        have cq3 := (hx.cell gz).trans cq
        have pa3 := (hx.cell pz).trans pa
        have pb3 := (hx.cell pz).trans pb
        have pc3 := (hx.cell pz).trans pc
        have pd3 := (hx.cell pz).trans pd
        have qa3 := (hx.cell qz).trans qa
        have qb3 := (hx.cell qz).trans qb
        have qc3 := (hx.cell qz).trans qc
        clear hx hB HN gz pz qz cq pa pb pc pd qa qb qc z3
        go_upto_region 12 with fail
        obtain ⟨W, rfl⟩ : ∃ W, W = W3 := ⟨_, rfl⟩
        go_cut [16] (fun s wx => s = .bool false ∧ Below W.heap.size W wx)
        case first =>
          go_region_held3 (fun w' => w'.cell? ⟨w6.heap.size, 1, none⟩ = some (.pointer (some ⟨w1.heap.size, 0, none⟩)) ∧ w'.cell? ⟨w.heap.size + 1, 0, none⟩ = some (.int .u64 (u a.hi)) ∧ w'.cell? ⟨w.heap.size + 1, 1, none⟩ = some (.int .u64 (u a.lo)) ∧ w'.cell? ⟨w.heap.size + 1, 2, none⟩ = some (.bool a.v6) ∧ Below W.heap.size W w')
            (first | exact keepN hk5 gz3 qz3 cq3 qa3 qb3 qc3 | (refine keepN ?_ gz3 qz3 cq3 qa3 qb3 qc3; go_grown)) ((go_at_call 42; refine (longest_un (HN3.out.keep (B := W.heap.size) (by go_grown) (Nat.le_refl _)) a).mono ?_; rintro e w5 ⟨rfl, hw5⟩; have hk5 := below_of (w := W) (by go_grown) hw5; have zk5 := hk5.size; (try (refine y5_then (b := W.heap.size) (c0 := .int .u64 0) (c1 := .int .u64 0) (c2 := .bool false) (c3 := .int .i64 0) (c4 := .int .i64 0) hw5 ?_ ?_ ?_ ?_ ?_ ?_ ?_ ?_ ?_ ?_ ?_ (fun y4 => ?_); go_size; go_simp; go_simp; go_simp; go_simp; go_simp; go_simp; go_simp; go_simp; go_simp; go_simp; obtain ⟨ya, yb, yc, yg, yi, yd, ye, yf, yh, yj, yz⟩ := y4))))
          all_goals (go_wp2_with fail; go_meet)
          all_goals exact ⟨rfl, by go_grown⟩
        case rest =>
          obtain ⟨rfl, hb5⟩ := hcut
          obtain ⟨W4, rfl⟩ : ∃ W4, W4 = wc := ⟨_, rfl⟩
          have b4 : Below ws.heap.size ws W4 := b3.trans (hb5.mono b3.size)
          have HN4 := Lib.hid (HN3.out.keep hb5 (Nat.le_refl _))
          have gz := Nat.lt_of_lt_of_le gz3 hb5.size
          have pz := Nat.lt_of_lt_of_le pz3 hb5.size
          have cq := (hb5.cell gz3).trans cq3
          have pa := (hb5.cell pz3).trans pa3
          have pb := (hb5.cell pz3).trans pb3
          have pc := (hb5.cell pz3).trans pc3
          have pd := (hb5.cell pz3).trans pd3
          clear hb5 HN3 gz3 pz3 qz3 cq3 pa3 pb3 pc3 pd3 qa3 qb3 qc3 b3
          obtain ⟨W, rfl⟩ : ∃ W, W = W4 := ⟨_, rfl⟩
          have Lq := fun x : Later W.heap.size W => (x.cell gz).trans cq
          have La := fun x : Later W.heap.size W => (x.cell pz).trans pa
          have Lb := fun x : Later W.heap.size W => (x.cell pz).trans pb
          have Lc := fun x : Later W.heap.size W => (x.cell pz).trans pc
          have Ld := fun x : Later W.heap.size W => (x.cell pz).trans pd
          go_wp2_with fail
          try simp only [List.append_eq, List.cons_append, List.nil_append]
          refine region_later W.heap.size (by kernel_rfl) (by kernel_rfl) ?_
          repeat (go_big_quiet_step (first
            | (go_at_call 43; exact later_of (Nat.le_refl _) (put_un (HN4.out.keep (Later.below _) (Nat.le_refl _)) p v))
            | (go_at_call 44; exact later_of (Nat.le_refl _) (CD.out _ _ (HN4.out.keep (Later.below _) (Nat.le_refl _))))
            | (go_at_call 45; exact later_of (Nat.le_refl _) (above_un (HN4.out.keep (Later.below _) (Nat.le_refl _)) p))
            | (go_at_call 46; exact later_of (Nat.le_refl _) (under_un (HN4.out.keep (Later.below _) (Nat.le_refl _)) p))
            | (go_at_call 47; exact later_of (Nat.le_refl _) (inside_un (HN4.out.keep (Later.below _) (Nat.le_refl _)) p))
            | (go_at_call 48; exact later_same (len_un (HN4.out.keep (Later.below _) (Nat.le_refl _))))
            | (go_at_call 49; exact later_of (Nat.le_refl _) (nodes_un (HN4.out.keep (Later.below _) (Nat.le_refl _))))
            | (go_at_call 50; exact later_same (slots_un (HN4.out.keep (Later.below _) (Nat.le_refl _))))))
          refine wpQuiet_nil ?_
          intro x
          have hx := x.below
          generalize x.at = W5 at hx ⊢
          clear x Lq La Lb Lc Ld
          go_wp2
          go_roundw
          case rel => exact ⟨1 + 1, by omega, by go_num, b4.trans (hx.mono b4.size)⟩
          case measure => simp [intOf]
      · go_wp2
        go_ret
        exact ⟨rfl, bS.trans (hB.mono bS.size)⟩
  · have HE := Lib.hid hp
    have hs' : (!psane p) = false := by simp [hp]
    clear hp
    go_wp2_with fail
    refine (rpsane_any p _).mono ?_
    rintro e w6 ⟨rfl, hb6⟩
    have HP6 := Lib.hid (HP5.out.keep hb6)
    have HA6 := Lib.hid (HA5.out.keep hb6)
    have HN6 := Lib.hid (HN5.out.keep hb6 (Nat.le_refl _))
    have b6 := b5.trans (hb6.mono b5.size)
    clear hb6 HP5 HA5 HN5 pa pb pc pd b5
    go_upto_region 9 with fail
    have hBs : Below w6.heap.size w6 (w6.alloc (.cells #[.pointer none, .pointer (some ⟨w1.heap.size, 0, none⟩)] 29)) := by go_grown
    have hg0 : (w6.alloc (.cells #[.pointer none, .pointer (some ⟨w1.heap.size, 0, none⟩)] 29)).cell? ⟨w6.heap.size, 0, none⟩ = some (.pointer none) := by go_simp <;> rfl
    have hg1 : (w6.alloc (.cells #[.pointer none, .pointer (some ⟨w1.heap.size, 0, none⟩)] 29)).cell? ⟨w6.heap.size, 1, none⟩ = some (.pointer (some ⟨w1.heap.size, 0, none⟩)) := by go_simp <;> rfl
    have hgz : w6.heap.size < (w6.alloc (.cells #[.pointer none, .pointer (some ⟨w1.heap.size, 0, none⟩)] 29)).heap.size := by go_size
    generalize hWS : World.alloc w6 _ = ws at hBs hg0 hg1 hgz ⊢
    have HPS := Lib.hid (HP6.out.keep hBs)
    have HAS := Lib.hid (HA6.out.keep hBs)
    have HNS := Lib.hid (HN6.out.keep hBs (Nat.le_refl _))
    have bS := b6.trans (hBs.mono b6.size)
    have hcd : (if psane p = true then (2 : Int) else 1) = 2 := by rw [HE.out]; exact rfl
    have cD : ∀ (W : World) (tv : Value), NoTrie W tv → Calls Try.prog 44 #[tv, .agg #[.int .u64 (u p.a.hi), .int .u64 (u p.a.lo), .bool p.a.v6, .int .i64 p.n]] W fun e w' => e = .returned (.int .i64 2) ∧ Below W.heap.size W w' := fun W tv hn => by
      have := del_un hn p
      rw [hcd] at this
      exact this
    have CD := Lib.hid cD
    have G0 := Lib.hid hg0
    have G1 := Lib.hid hg1
    clear hWS hBs HP6 HA6 HN6 b6 hcd cD hg0 hg1
    go_loopw [12] (fun i wr => ∃ k : Nat, k ≤ 2 ∧ i = .int .i64 k ∧ Below ws.heap.size ws wr) (fun i _ => 2 - (intOf i).toNat)
    case atStart => exact ⟨0, Nat.zero_le _, rfl, Below.refl _ _⟩
    case round =>
      obtain ⟨k, hk, rfl, hB⟩ := hrel
      obtain ⟨pa, pb, pc, pd, -, -, -, -, pz⟩ := id (HPS.out.keep hB)
      obtain ⟨qa, qb, qc, qz⟩ := id (HAS.out.keep hB)
      have gz : w6.heap.size < wr.heap.size := Nat.lt_of_lt_of_le hgz hB.size
      have hk3 : k = 0 ∨ k = 1 ∨ k = 2 := by omega
      rcases hk3 with rfl | rfl | rfl
      · have cq : wr.cell? ⟨w6.heap.size, 0, none⟩ = some (.pointer none) := (hB.cell (p := ⟨w6.heap.size, 0, none⟩) hgz).trans G0.out
        have HN : Hid (NoTrie wr (.pointer none)) := Lib.hid (.inl rfl)
        obtain ⟨W, rfl⟩ : ∃ W, W = wr := ⟨_, rfl⟩
        have Lq := fun x : Later W.heap.size W => (x.cell gz).trans cq
        have La := fun x : Later W.heap.size W => (x.cell pz).trans pa
        have Lb := fun x : Later W.heap.size W => (x.cell pz).trans pb
        have Lc := fun x : Later W.heap.size W => (x.cell pz).trans pc
        have Ld := fun x : Later W.heap.size W => (x.cell pz).trans pd
        go_wp2_with fail
        refine region_later W.heap.size (by kernel_rfl) (by kernel_rfl) ?_
        repeat (go_big_quiet_step ((go_at_call 41; exact later_of (Nat.le_refl _) (get_un (HN.out.keep (Later.below _) (Nat.le_refl _)) p))))
        refine wpQuiet_nil ?_
        intro x
        have hx := x.below
        generalize x.at = W3 at hx ⊢
        clear x Lq La Lb Lc Ld
        have z3 := hx.size
        have b3 : Below ws.heap.size ws W3 := hB.trans (hx.mono hB.size)
        have HN3 := Lib.hid (HN.out.keep hx (Nat.le_refl _))
        have gz3 : w6.heap.size < W3.heap.size := Nat.lt_of_lt_of_le gz z3
        have pz3 : w.heap.size < W3.heap.size := Nat.lt_of_lt_of_le pz z3
        have qz3 : w.heap.size + 1 < W3.heap.size := Nat.lt_of_lt_of_le qz z3
        have cq3 := (hx.cell gz).trans cq
        have pa3 := (hx.cell pz).trans pa
        have pb3 := (hx.cell pz).trans pb
        have pc3 := (hx.cell pz).trans pc
        have pd3 := (hx.cell pz).trans pd
        have qa3 := (hx.cell qz).trans qa
        have qb3 := (hx.cell qz).trans qb
        have qc3 := (hx.cell qz).trans qc
        clear hx hB HN gz pz qz cq pa pb pc pd qa qb qc z3
        go_upto_region 12 with fail
        obtain ⟨W, rfl⟩ : ∃ W, W = W3 := ⟨_, rfl⟩
        go_cut [16] (fun s wx => s = .bool false ∧ Below W.heap.size W wx)
        case first =>
          go_region_held3 (fun w' => w'.cell? ⟨w6.heap.size, 0, none⟩ = some (.pointer none) ∧ w'.cell? ⟨w.heap.size + 1, 0, none⟩ = some (.int .u64 (u a.hi)) ∧ w'.cell? ⟨w.heap.size + 1, 1, none⟩ = some (.int .u64 (u a.lo)) ∧ w'.cell? ⟨w.heap.size + 1, 2, none⟩ = some (.bool a.v6) ∧ Below W.heap.size W w')
            (first | exact keepN hk5 gz3 qz3 cq3 qa3 qb3 qc3 | (refine keepN ?_ gz3 qz3 cq3 qa3 qb3 qc3; go_grown)) ((go_at_call 42; refine (longest_un (HN3.out.keep (B := W.heap.size) (by go_grown) (Nat.le_refl _)) a).mono ?_; rintro e w5 ⟨rfl, hw5⟩; have hk5 := below_of (w := W) (by go_grown) hw5; have zk5 := hk5.size; (try (refine y5_then (b := W.heap.size) (c0 := .int .u64 0) (c1 := .int .u64 0) (c2 := .bool false) (c3 := .int .i64 0) (c4 := .int .i64 0) hw5 ?_ ?_ ?_ ?_ ?_ ?_ ?_ ?_ ?_ ?_ ?_ (fun y4 => ?_); go_size; go_simp; go_simp; go_simp; go_simp; go_simp; go_simp; go_simp; go_simp; go_simp; go_simp; obtain ⟨ya, yb, yc, yg, yi, yd, ye, yf, yh, yj, yz⟩ := y4))))
          all_goals (go_wp2_with fail; go_meet)
          all_goals exact ⟨rfl, by go_grown⟩
        case rest =>
          obtain ⟨rfl, hb5⟩ := hcut
          obtain ⟨W4, rfl⟩ : ∃ W4, W4 = wc := ⟨_, rfl⟩
          have b4 : Below ws.heap.size ws W4 := b3.trans (hb5.mono b3.size)
          have HN4 := Lib.hid (HN3.out.keep hb5 (Nat.le_refl _))
          have gz := Nat.lt_of_lt_of_le gz3 hb5.size
          have pz := Nat.lt_of_lt_of_le pz3 hb5.size
          have cq := (hb5.cell gz3).trans cq3
          have pa := (hb5.cell pz3).trans pa3
          have pb := (hb5.cell pz3).trans pb3
          have pc := (hb5.cell pz3).trans pc3
          have pd := (hb5.cell pz3).trans pd3
          clear hb5 HN3 gz3 pz3 qz3 cq3 pa3 pb3 pc3 pd3 qa3 qb3 qc3 b3
          obtain ⟨W, rfl⟩ : ∃ W, W = W4 := ⟨_, rfl⟩
          have Lq := fun x : Later W.heap.size W => (x.cell gz).trans cq
          have La := fun x : Later W.heap.size W => (x.cell pz).trans pa
          have Lb := fun x : Later W.heap.size W => (x.cell pz).trans pb
          have Lc := fun x : Later W.heap.size W => (x.cell pz).trans pc
          have Ld := fun x : Later W.heap.size W => (x.cell pz).trans pd
          go_wp2_with fail
          try simp only [List.append_eq, List.cons_append, List.nil_append]
          refine region_later W.heap.size (by kernel_rfl) (by kernel_rfl) ?_
          repeat (go_big_quiet_step (first
            | (go_at_call 43; exact later_of (Nat.le_refl _) (put_un (HN4.out.keep (Later.below _) (Nat.le_refl _)) p v))
            | (go_at_call 44; exact later_of (Nat.le_refl _) (CD.out _ _ (HN4.out.keep (Later.below _) (Nat.le_refl _))))
            | (go_at_call 45; exact later_of (Nat.le_refl _) (above_un (HN4.out.keep (Later.below _) (Nat.le_refl _)) p))
            | (go_at_call 46; exact later_of (Nat.le_refl _) (under_un (HN4.out.keep (Later.below _) (Nat.le_refl _)) p))
            | (go_at_call 47; exact later_of (Nat.le_refl _) (inside_un (HN4.out.keep (Later.below _) (Nat.le_refl _)) p))
            | (go_at_call 48; exact later_same (len_un (HN4.out.keep (Later.below _) (Nat.le_refl _))))
            | (go_at_call 49; exact later_of (Nat.le_refl _) (nodes_un (HN4.out.keep (Later.below _) (Nat.le_refl _))))
            | (go_at_call 50; exact later_same (slots_un (HN4.out.keep (Later.below _) (Nat.le_refl _))))))
          refine wpQuiet_nil ?_
          intro x
          have hx := x.below
          generalize x.at = W5 at hx ⊢
          clear x Lq La Lb Lc Ld
          go_wp2
          go_roundw
          case rel => exact ⟨0 + 1, by omega, by go_num, b4.trans (hx.mono b4.size)⟩
          case measure => simp [intOf]
      · have cq : wr.cell? ⟨w6.heap.size, 1, none⟩ = some (.pointer (some ⟨w1.heap.size, 0, none⟩)) := (hB.cell (p := ⟨w6.heap.size, 1, none⟩) hgz).trans G1.out
        have HN := Lib.hid (HNS.out.keep hB (Nat.le_refl _))
        obtain ⟨W, rfl⟩ : ∃ W, W = wr := ⟨_, rfl⟩
        have Lq := fun x : Later W.heap.size W => (x.cell gz).trans cq
        have La := fun x : Later W.heap.size W => (x.cell pz).trans pa
        have Lb := fun x : Later W.heap.size W => (x.cell pz).trans pb
        have Lc := fun x : Later W.heap.size W => (x.cell pz).trans pc
        have Ld := fun x : Later W.heap.size W => (x.cell pz).trans pd
        go_wp2_with fail
        refine region_later W.heap.size (by kernel_rfl) (by kernel_rfl) ?_
        repeat (go_big_quiet_step ((go_at_call 41; exact later_of (Nat.le_refl _) (get_un (HN.out.keep (Later.below _) (Nat.le_refl _)) p))))
        refine wpQuiet_nil ?_
        intro x
        have hx := x.below
        generalize x.at = W3 at hx ⊢
        clear x Lq La Lb Lc Ld
        have z3 := hx.size
        have b3 : Below ws.heap.size ws W3 := hB.trans (hx.mono hB.size)
        have HN3 := Lib.hid (HN.out.keep hx (Nat.le_refl _))
        have gz3 : w6.heap.size < W3.heap.size := Nat.lt_of_lt_of_le gz z3
        have pz3 : w.heap.size < W3.heap.size := Nat.lt_of_lt_of_le pz z3
        have qz3 : w.heap.size + 1 < W3.heap.size := Nat.lt_of_lt_of_le qz z3
        have cq3 := (hx.cell gz).trans cq
        have pa3 := (hx.cell pz).trans pa
        have pb3 := (hx.cell pz).trans pb
        have pc3 := (hx.cell pz).trans pc
        have pd3 := (hx.cell pz).trans pd
        have qa3 := (hx.cell qz).trans qa
        have qb3 := (hx.cell qz).trans qb
        have qc3 := (hx.cell qz).trans qc
        clear hx hB HN gz pz qz cq pa pb pc pd qa qb qc z3
        go_upto_region 12 with fail
        obtain ⟨W, rfl⟩ : ∃ W, W = W3 := ⟨_, rfl⟩
        go_cut [16] (fun s wx => s = .bool false ∧ Below W.heap.size W wx)
        case first =>
          go_region_held3 (fun w' => w'.cell? ⟨w6.heap.size, 1, none⟩ = some (.pointer (some ⟨w1.heap.size, 0, none⟩)) ∧ w'.cell? ⟨w.heap.size + 1, 0, none⟩ = some (.int .u64 (u a.hi)) ∧ w'.cell? ⟨w.heap.size + 1, 1, none⟩ = some (.int .u64 (u a.lo)) ∧ w'.cell? ⟨w.heap.size + 1, 2, none⟩ = some (.bool a.v6) ∧ Below W.heap.size W w')
            (first | exact keepN hk5 gz3 qz3 cq3 qa3 qb3 qc3 | (refine keepN ?_ gz3 qz3 cq3 qa3 qb3 qc3; go_grown)) ((go_at_call 42; refine (longest_un (HN3.out.keep (B := W.heap.size) (by go_grown) (Nat.le_refl _)) a).mono ?_; rintro e w5 ⟨rfl, hw5⟩; have hk5 := below_of (w := W) (by go_grown) hw5; have zk5 := hk5.size; (try (refine y5_then (b := W.heap.size) (c0 := .int .u64 0) (c1 := .int .u64 0) (c2 := .bool false) (c3 := .int .i64 0) (c4 := .int .i64 0) hw5 ?_ ?_ ?_ ?_ ?_ ?_ ?_ ?_ ?_ ?_ ?_ (fun y4 => ?_); go_size; go_simp; go_simp; go_simp; go_simp; go_simp; go_simp; go_simp; go_simp; go_simp; go_simp; obtain ⟨ya, yb, yc, yg, yi, yd, ye, yf, yh, yj, yz⟩ := y4))))
          all_goals (go_wp2_with fail; go_meet)
          all_goals exact ⟨rfl, by go_grown⟩
        case rest =>
          obtain ⟨rfl, hb5⟩ := hcut
          obtain ⟨W4, rfl⟩ : ∃ W4, W4 = wc := ⟨_, rfl⟩
          have b4 : Below ws.heap.size ws W4 := b3.trans (hb5.mono b3.size)
          have HN4 := Lib.hid (HN3.out.keep hb5 (Nat.le_refl _))
          have gz := Nat.lt_of_lt_of_le gz3 hb5.size
          have pz := Nat.lt_of_lt_of_le pz3 hb5.size
          have cq := (hb5.cell gz3).trans cq3
          have pa := (hb5.cell pz3).trans pa3
          have pb := (hb5.cell pz3).trans pb3
          have pc := (hb5.cell pz3).trans pc3
          have pd := (hb5.cell pz3).trans pd3
          clear hb5 HN3 gz3 pz3 qz3 cq3 pa3 pb3 pc3 pd3 qa3 qb3 qc3 b3
          obtain ⟨W, rfl⟩ : ∃ W, W = W4 := ⟨_, rfl⟩
          have Lq := fun x : Later W.heap.size W => (x.cell gz).trans cq
          have La := fun x : Later W.heap.size W => (x.cell pz).trans pa
          have Lb := fun x : Later W.heap.size W => (x.cell pz).trans pb
          have Lc := fun x : Later W.heap.size W => (x.cell pz).trans pc
          have Ld := fun x : Later W.heap.size W => (x.cell pz).trans pd
          go_wp2_with fail
          try simp only [List.append_eq, List.cons_append, List.nil_append]
          refine region_later W.heap.size (by kernel_rfl) (by kernel_rfl) ?_
          repeat (go_big_quiet_step (first
            | (go_at_call 43; exact later_of (Nat.le_refl _) (put_un (HN4.out.keep (Later.below _) (Nat.le_refl _)) p v))
            | (go_at_call 44; exact later_of (Nat.le_refl _) (CD.out _ _ (HN4.out.keep (Later.below _) (Nat.le_refl _))))
            | (go_at_call 45; exact later_of (Nat.le_refl _) (above_un (HN4.out.keep (Later.below _) (Nat.le_refl _)) p))
            | (go_at_call 46; exact later_of (Nat.le_refl _) (under_un (HN4.out.keep (Later.below _) (Nat.le_refl _)) p))
            | (go_at_call 47; exact later_of (Nat.le_refl _) (inside_un (HN4.out.keep (Later.below _) (Nat.le_refl _)) p))
            | (go_at_call 48; exact later_same (len_un (HN4.out.keep (Later.below _) (Nat.le_refl _))))
            | (go_at_call 49; exact later_of (Nat.le_refl _) (nodes_un (HN4.out.keep (Later.below _) (Nat.le_refl _))))
            | (go_at_call 50; exact later_same (slots_un (HN4.out.keep (Later.below _) (Nat.le_refl _))))))
          refine wpQuiet_nil ?_
          intro x
          have hx := x.below
          generalize x.at = W5 at hx ⊢
          clear x Lq La Lb Lc Ld
          go_wp2
          go_roundw
          case rel => exact ⟨1 + 1, by omega, by go_num, b4.trans (hx.mono b4.size)⟩
          case measure => simp [intOf]
      · go_wp2
        go_ret
        exact ⟨rfl, bS.trans (hB.mono bS.size)⟩

end Go.Proofs.Ytnepmlhbheaonaa

namespace Go.Proofs.Ytnepmlhbheaonaa
open Go.ChangeShapes Go.WideShapes Go.ChangeAt Go.RowKit

set_option maxRecDepth 100000 in
theorem trieNone_lifted (os : Os) (started : os.Started) (H : Type) (enc : TypeId × Value → H) :
    ReturnsInHanded {} Try.checked os 10 .any (Rows.trieNoneSpec.pre6 enc Try.prog Try.f10 Rows.trieNoneRow.domain false) (Rows.trieNoneSpec.post enc Try.prog Try.f10 false true false false) := by
  refine returnsInHanded_of_change (C := Try.checked) own started (by kernel_rfl) Try.func10
    (ChangeSpec.witness6 (enc := enc) (C := Try.checked) false ⟨#[], #[.agg #[.int .u64 0, .int .u64 0, .bool false, .int .i64 0], .agg #[.int .u64 0, .int .u64 0, .bool false], .int .i64 0], []⟩ 8 (by kernel_rfl) (by kernel_rfl) (by kernel_rfl) (by kernel_rfl)) ?_
  intro W base args ds gs before hval0 hW hcnd _
  have hval : ∀ (j : Nat) t v, Try.f10.params[j]? = some t → args[j]? = some v → Value.okWide Try.prog W .any base t v := hval0
  have hW' := hW
  obtain ⟨p, q, hA0, hV, rfl, hfz, hnd⟩ := hW
  have hA : DataW.TrodAll enc Try.prog W 0 (fun _ => true) true Try.f10.params.toList args.toList ds p := hA0
  rw [Try.params10] at hA hval
  obtain ⟨v0, vs0, d0, ds0, p0, q0, hargs, rfl, rfl, h0, r0⟩ := trodAll_cons hA
  obtain ⟨v1, vs1, d1, ds1, p1, q1, rfl, rfl, rfl, h1, r1⟩ := trodAll_cons r0
  obtain ⟨v2, vs2, d2, ds2, p2, q2, rfl, rfl, rfl, h2, r2⟩ := trodAll_cons r1
  obtain ⟨rfl, rfl, rfl⟩ := trodAll_nil r2
  obtain rfl : args = #[v0, v1, v2] := by cases args; simp_all
  obtain ⟨rfl, rfl⟩ := trodVars_none hV
  have lt0 : ∀ x ∈ p0, x.block < W.heap.size := by obtain ⟨m, hm⟩ := h0; exact DataW.trod_lt m _ _ _ hm
  obtain ⟨a0, rfl, w0⟩ := open_pf (hval 0 26 v0 rfl rfl) h0
  have lt1 : ∀ x ∈ p1, x.block < W.heap.size := by obtain ⟨m, hm⟩ := h1; exact DataW.trod_lt m _ _ _ hm
  obtain ⟨a1, rfl⟩ := open_ad (hval 1 24 v1 rfl rfl) h1
  have lt2 : ∀ x ∈ p2, x.block < W.heap.size := by obtain ⟨m, hm⟩ := h2; exact DataW.trod_lt m _ _ _ hm
  have k2 := h2
  obtain ⟨a2, rfl, e2, f2, w2⟩ := open_int Try.underlying3 (hval 2 3 v2 rfl rfl) h2
  clear hA0 hval0
  refine (none_law a0 a1 a2 W).mono fun e W' ⟨he, bel⟩ => ?_
  subst he
  exact ⟨_, rfl, _, _, _, [], _, [], hW', trodAll_mk1 (shut_bool Try.underlying4 _), (trodAll_cons_mk (Below.trod laidOut (by kernel_rfl) (of_decide_eq_true (by kernel_rfl)) h0 bel lt0) (trodAll_cons_mk (Below.trod laidOut (by kernel_rfl) (of_decide_eq_true (by kernel_rfl)) h1 bel lt1) (trodAll_cons_mk (Below.trod laidOut (by kernel_rfl) (of_decide_eq_true (by kernel_rfl)) h2 bel lt2) trodAll_mk0))), rfl, bel.frame _, fun h => by cases h⟩

theorem trieNone_holds : Rows.TrieNoneSaid :=
  OpenClaim.holds_of_wide 10 Try.f10 rfl rfl rfl rfl rfl rfl rfl ⟨rfl, rfl, rfl, rfl, rfl⟩ rfl rfl rfl rfl rfl (by kernel_rfl) Try.func10 (by kernel_rfl)
    (of_decide_eq_true (by kernel_rfl)) (by unfold Func.isWrapper; first | (rw [if_pos (by decide +kernel)]; kernel_rfl) | (rw [if_neg (by decide +kernel)]; exact ⟨rfl, rfl⟩))
    (fun os started H enc _ => trieNone_lifted os started H enc)

end Go.Proofs.Ytnepmlhbheaonaa
