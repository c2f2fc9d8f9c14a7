/-
  What Longest of package rib returns of routes that were not made. Condition: the pointer is nil, or leads to a zero one.
-/
import Derived.Test.YtnepmlhbheaonaaE1
import Derived.Test.YtnepmlhbheaonaaF1
import Derived.Test.YtnepmlhbheaonaaShelf
import Derived.Maps.RangeWalk
import Derived.Lib.SlKeysI
import Derived.OwnWalkIn
import Derived.Deep.RegionHeld3
import Derived.Deep.DeepCutAuto
namespace Go.Proofs.Ytnepmlhbheaonaa
open Go.RowKit
set_option maxRecDepth 100000

/-- A pointer to no tree that was made. -/
def NoTrie (w : World) (tv : Value) : Prop := tv = .pointer none ∨ ∃ t, tv = .pointer (some ⟨t, 0, none⟩) ∧ t < w.heap.size ∧ w.cell? ⟨t, 0, none⟩ = some (.slice none 0 0) ∧ w.cell? ⟨t, 1, none⟩ = some (.slice none 0 0) ∧ w.cell? ⟨t, 2, none⟩ = some (.int .i64 0)
theorem NoTrie.keep {B : Nat} {w w' : World} {tv : Value} (h : NoTrie w tv) (hb : Below B w w') (hB : w.heap.size ≤ B) : NoTrie w' tv := by
  rcases h with rfl | ⟨t, rfl, ht, c0, c1, c2⟩
  · exact .inl rfl
  · have h' : t < B := Nat.lt_of_lt_of_le ht hB
    exact .inr ⟨t, rfl, Nat.lt_of_lt_of_le ht hb.size, (hb.cell (p := ⟨t, 0, none⟩) h').trans c0, (hb.cell (p := ⟨t, 1, none⟩) h').trans c1, (hb.cell (p := ⟨t, 2, none⟩) h').trans c2⟩

section
variable {w : World} {tv : Value}
set_option maxHeartbeats 400000 in
theorem made_un (h : NoTrie w tv) : Calls Try.prog 80 #[tv] w fun e w' => e = .returned (.bool false) ∧ w = w' := by
  rcases h with rfl | ⟨t, rfl, ht, c0, c1, c2⟩
  all_goals
    go_enter Try.func80, Try.ntmps80
    go_wp2
    go_ret
    exact ⟨rfl, rfl⟩
set_option maxHeartbeats 400000 in
theorem len_un (h : NoTrie w tv) : Calls Try.prog 48 #[tv] w fun e w' => e = .returned (.int .i64 0) ∧ w = w' := by
  rcases h with rfl | ⟨t, rfl, ht, c0, c1, c2⟩
  all_goals
    go_enter Try.func48, Try.ntmps48
    go_wp2
    go_ret
    exact ⟨rfl, rfl⟩
set_option maxHeartbeats 400000 in
theorem slots_un (h : NoTrie w tv) : Calls Try.prog 50 #[tv] w fun e w' => e = .returned (.int .i64 0) ∧ w = w' := by
  rcases h with rfl | ⟨t, rfl, ht, c0, c1, c2⟩
  all_goals
    go_enter Try.func50, Try.ntmps50
    go_wp2
    go_ret
    exact ⟨rfl, rfl⟩
set_option maxHeartbeats 400000 in
theorem nodes_un (h : NoTrie w tv) : Calls Try.prog 49 #[tv] w fun e w' => e = .returned (.int .i64 0) ∧ Below w.heap.size w w' := by
  rcases h with rfl | ⟨t, rfl, ht, c0, c1, c2⟩
  · go_enter Try.func49, Try.ntmps49
    go_wp2
    go_ret
    exact ⟨rfl, Below.refl _ _⟩
  · go_enter Try.func49, Try.ntmps49
    go_wp2_with fail
    go_quiet (fail)
    go_wp2
    go_ret
    exact ⟨rfl, below_drewN (Below.refl _ _) _⟩
set_option maxHeartbeats 400000 in
theorem along_un (h : NoTrie w tv) (p : Pf) (f : Value) :
    Calls Try.prog 78 #[tv, .agg #[.int .u64 (u p.a.hi), .int .u64 (u p.a.lo), .bool p.a.v6, .int .i64 p.n], f] w fun e w' => e = .returned (.tuple #[]) ∧ Below w.heap.size w w' := by
  have HN := Lib.hid h
  clear h
  go_enter Try.func78, Try.ntmps78
  go_wp2_with fail
  refine (made_un (HN.out.keep (B := w.heap.size) (by go_grown) (Nat.le_refl _))).mono ?_
  rintro e w1 ⟨rfl, rfl⟩
  go_wp2
  exact bodyPost_ret (v := .tuple #[]) (by simp [*, results, Try.results78, go_sem] <;> rfl) rfl ⟨rfl, by go_grown⟩
set_option maxHeartbeats 1000000 in
theorem at_un (h : NoTrie w tv) (p : Pf) :
    Calls Try.prog 77 #[tv, .agg #[.int .u64 (u p.a.hi), .int .u64 (u p.a.lo), .bool p.a.v6, .int .i64 p.n]] w fun e w' => e = .returned (.tuple #[.int .i64 0, .bool false]) ∧ Below w.heap.size w w' := by
  have HN := Lib.hid h
  clear h
  go_enter Try.func77, Try.ntmps77
  go_wp2_with fail
  refine (along_un (HN.out.keep (B := w.heap.size) (by go_grown) (Nat.le_refl _)) p _).mono ?_
  rintro e w1 ⟨rfl, hw1⟩
  have b1 : Below w.heap.size w w1 := below_of (by go_grown) hw1
  have c1 : w1.cell? ⟨w.heap.size + 1, 0, none⟩ = some (.int .i64 0) := (hw1.cell (by go_size)).trans (by go_simp <;> rfl)
  have c2 : w1.cell? ⟨w.heap.size + 1 + 1, 0, none⟩ = some (.bool false) := (hw1.cell (by go_size)).trans (by go_simp <;> rfl)
  clear hw1
  go_wp2_with fail
  go_quiet (fail)
  go_wp2
  go_ret2
  exact ⟨rfl, below_drewN b1 _⟩
set_option maxHeartbeats 1000000 in
theorem get_un (h : NoTrie w tv) (p : Pf) :
    Calls Try.prog 41 #[tv, .agg #[.int .u64 (u p.a.hi), .int .u64 (u p.a.lo), .bool p.a.v6, .int .i64 p.n]] w fun e w' => e = .returned (.tuple #[.int .i64 0, .bool false]) ∧ Below w.heap.size w w' := by
  have HN := Lib.hid h
  clear h
  go_enter Try.func41, Try.ntmps41
  go_wp2_with fail
  refine (at_un (HN.out.keep (B := w.heap.size) (by go_grown) (Nat.le_refl _)) p).mono ?_
  rintro e w1 ⟨rfl, hw1⟩
  have b1 : Below w.heap.size w w1 := below_of (by go_grown) hw1
  go_wp2
  go_ret2
  exact ⟨rfl, b1⟩
set_option maxHeartbeats 1000000 in
theorem inside_un (h : NoTrie w tv) (p : Pf) :
    Calls Try.prog 47 #[tv, .agg #[.int .u64 (u p.a.hi), .int .u64 (u p.a.lo), .bool p.a.v6, .int .i64 p.n]] w fun e w' => e = .returned (.bool false) ∧ Below w.heap.size w w' := by
  have HN := Lib.hid h
  clear h
  go_enter Try.func47, Try.ntmps47
  go_wp2_with fail
  refine (at_un (HN.out.keep (B := w.heap.size) (by go_grown) (Nat.le_refl _)) p).mono ?_
  rintro e w1 ⟨rfl, hw1⟩
  have b1 : Below w.heap.size w w1 := below_of (by go_grown) hw1
  go_wp2
  go_ret
  exact ⟨rfl, b1⟩
set_option maxHeartbeats 1000000 in
theorem put_un (h : NoTrie w tv) (p : Pf) (v : Int) :
    Calls Try.prog 43 #[tv, .agg #[.int .u64 (u p.a.hi), .int .u64 (u p.a.lo), .bool p.a.v6, .int .i64 p.n], .int .i64 v] w fun e w' => e = .returned (.int .i64 1) ∧ Below w.heap.size w w' := by
  have HN := Lib.hid h
  clear h
  go_enter Try.func43, Try.ntmps43
  go_wp2_with fail
  refine (made_un (HN.out.keep (B := w.heap.size) (by go_grown) (Nat.le_refl _))).mono ?_
  rintro e w1 ⟨rfl, rfl⟩
  go_wp2
  go_ret
  exact ⟨rfl, by go_grown⟩
set_option maxHeartbeats 1000000 in
theorem del_un (h : NoTrie w tv) (p : Pf) :
    Calls Try.prog 44 #[tv, .agg #[.int .u64 (u p.a.hi), .int .u64 (u p.a.lo), .bool p.a.v6, .int .i64 p.n]] w fun e w' => e = .returned (.int .i64 (if psane p = true then 2 else 1)) ∧ Below w.heap.size w w' := by
  have HN := Lib.hid h
  clear h
  cases hp : psane p
  · have hs' : (!psane p) = true := by simp [hp]
    clear hp
    go_enter Try.func44, Try.ntmps44
    go_wp2_with fail
    refine (psane_any p _).mono ?_
    rintro e w2 ⟨rfl, hw2⟩
    have zw2 := hw2.size
    have bw2 := below_of (w := w) (by go_grown) hw2
    try simp at zw2
    obtain ⟨p1a, p1b, p1c, p1g, p1d, p1e, p1f, p1h, p1z⟩ := cells4 (b := w.heap.size) hw2 (by go_size) (by go_simp <;> rfl) (by go_simp <;> rfl) (by go_simp <;> rfl) (by go_simp <;> rfl) (by go_simp <;> rfl) (by go_simp <;> rfl) (by go_simp <;> rfl) (by go_simp <;> rfl)
    clear hw2
    go_wp2
    go_ret
    exact ⟨rfl, bw2⟩
  · have hs' : (!psane p) = false := by simp [hp]
    clear hp
    go_enter Try.func44, Try.ntmps44
    go_wp2_with fail
    refine (psane_any p _).mono ?_
    rintro e w2 ⟨rfl, hw2⟩
    have zw2 := hw2.size
    have bw2 := below_of (w := w) (by go_grown) hw2
    try simp at zw2
    obtain ⟨p2a, p2b, p2c, p2g, p2d, p2e, p2f, p2h, p2z⟩ := cells4 (b := w.heap.size) hw2 (by go_size) (by go_simp <;> rfl) (by go_simp <;> rfl) (by go_simp <;> rfl) (by go_simp <;> rfl) (by go_simp <;> rfl) (by go_simp <;> rfl) (by go_simp <;> rfl) (by go_simp <;> rfl)
    clear hw2
    go_wp2_with fail
    refine (at_un (HN.out.keep bw2 (Nat.le_refl _)) p).mono ?_
    rintro e w1 ⟨rfl, hw1⟩
    have b1 : Below w.heap.size w w1 := bw2.trans (hw1.mono bw2.size)
    go_wp2
    go_ret
    exact ⟨rfl, b1⟩
set_option maxHeartbeats 1000000 in
theorem above_un (h : NoTrie w tv) (p : Pf) :
    Calls Try.prog 45 #[tv, .agg #[.int .u64 (u p.a.hi), .int .u64 (u p.a.lo), .bool p.a.v6, .int .i64 p.n]] w fun e w' => e = .returned (.slice none 0 0) ∧ Below w.heap.size w w' := by
  have HN := Lib.hid h
  rcases h with rfl | ⟨t, rfl, -⟩
  all_goals
    go_enter Try.func45, Try.ntmps45
    go_wp2_with fail
    refine (along_un (HN.out.keep (B := w.heap.size) (by go_grown) (Nat.le_refl _)) p _).mono ?_
    rintro e w1 ⟨rfl, hw1⟩
    have b1 : Below w.heap.size w w1 := below_of (by go_grown) hw1
    have c1 : w1.cell? ⟨w.heap.size + 1 + 1, 0, none⟩ = some (.slice none 0 0) := (hw1.cell (by go_size)).trans (by go_simp <;> rfl)
    clear hw1
    go_wp2
    go_ret
    exact ⟨rfl, b1⟩
set_option maxHeartbeats 1000000 in
theorem under_un (h : NoTrie w tv) (p : Pf) :
    Calls Try.prog 46 #[tv, .agg #[.int .u64 (u p.a.hi), .int .u64 (u p.a.lo), .bool p.a.v6, .int .i64 p.n]] w fun e w' => e = .returned (.slice none 0 0) ∧ Below w.heap.size w w' := by
  have HN := Lib.hid h
  rcases h with rfl | ⟨t, rfl, -⟩
  all_goals
    go_enter Try.func46, Try.ntmps46
    go_wp2_with fail
    refine (at_un (HN.out.keep (B := w.heap.size) (by go_grown) (Nat.le_refl _)) p).mono ?_
    rintro e w1 ⟨rfl, hw1⟩
    have b1 : Below w.heap.size w w1 := below_of (by go_grown) hw1
    go_wp2
    go_ret
    exact ⟨rfl, b1⟩
set_option maxHeartbeats 2000000 in
theorem longest_un (h : NoTrie w tv) (a : Ad) :
    Calls Try.prog 42 #[tv, .agg #[.int .u64 (u a.hi), .int .u64 (u a.lo), .bool a.v6]] w fun e w' => e = .returned (.tuple #[.agg #[.int .u64 0, .int .u64 0, .bool false, .int .i64 0, .int .i64 0], .bool false]) ∧ Below w.heap.size w w' := by
  have HN := Lib.hid h
  obtain ⟨PT, hPT⟩ : ∃ PT : Value, PT = tv := ⟨_, rfl⟩
  have HPT := Lib.hid hPT
  rcases h with rfl | ⟨t, rfl, -⟩
  all_goals
    clear hPT
    go_enter Try.func42, Try.ntmps42
    go_wp2_with fail
    generalize hWW : World.alloc (World.alloc (World.alloc _ _) _) _ = W
    have hB : Below w.heap.size w W := by subst hWW; go_grown
    have cT : W.cell? ⟨w.heap.size, 0, none⟩ = some PT := by rw [HPT.out]; subst hWW; go_simp <;> rfl
    have pa : W.cell? ⟨w.heap.size + 1, 0, none⟩ = some (.int .u64 (u a.hi)) := by subst hWW; go_simp <;> rfl
    have pb : W.cell? ⟨w.heap.size + 1, 1, none⟩ = some (.int .u64 (u a.lo)) := by subst hWW; go_simp <;> rfl
    have pc : W.cell? ⟨w.heap.size + 1, 2, none⟩ = some (.bool a.v6) := by subst hWW; go_simp <;> rfl
    have h3 : W.heap[w.heap.size + 1 + 1]? = some (.cells #[.int .u64 0, .int .u64 0, .bool false, .int .i64 0, .int .i64 0] 90 (0, 0)) := by subst hWW; repeat (first | (refine hp_new ?_; (simp; done)) | (refine hp_old ?_ ?_; · (first | (simp; done) | (simp; omega))))
    have h1 : W.heap[w.heap.size + 1 + 1 + 1]? = some (.cells #[.int .u64 0, .int .u64 0, .bool false, .int .i64 0, .int .i64 0] 90 (0, 0)) := by subst hWW; repeat (first | (refine hp_new ?_; (simp; done)) | (refine hp_old ?_ ?_; · (first | (simp; done) | (simp; omega))))
    have h2 : W.heap[w.heap.size + 1 + 1 + 1 + 1]? = some (.cells #[.bool false] 4 (0, 0)) := by subst hWW; repeat (first | (refine hp_new ?_; (simp; done)) | (refine hp_old ?_ ?_; · (first | (simp; done) | (simp; omega))))
    have z9 := lt_of_block h2
    have zT : w.heap.size < W.heap.size := by omega
    have pz : w.heap.size + 1 < W.heap.size := by omega
    have z0 := hB.size
    clear hWW
    rw [HPT.out] at cT
    have L2 := fun x : Later W.heap.size W => (x.cell zT).trans cT
    have La := fun x : Later W.heap.size W => (x.cell pz).trans pa
    have Lb := fun x : Later W.heap.size W => (x.cell pz).trans pb
    have Lc := fun x : Later W.heap.size W => (x.cell pz).trans pc
    refine region_tail 7 W.heap.size (by kernel_rfl) (by kernel_rfl) ?_
    simp only [List.take_succ_cons, List.take_zero, List.drop_succ_cons, List.drop_zero]
    repeat (go_big_quiet_step (first | (go_at_call 63; exact later_same (width_any _ _)) | (go_at_call 29; exact later_of (Nat.le_refl _) (pof_any _ _ _))))
    refine wpQuiet_nil ?_
    intro x
    have hx := x.below
    generalize x.at = w5 at hx ⊢
    clear x L2 La Lb Lc cT pa pb pc
    go_wp2_with fail
    refine (along_un (HN.out.keep (B := w.heap.size) (hB.trans (hx.mono z0)) (Nat.le_refl _)) _ _).mono ?_
    rintro e w1 ⟨rfl, hw1⟩
    have hz5 := hx.size
    have hbW : Below W.heap.size W w1 := hx.trans (hw1.mono hz5)
    have hb1 := hB.trans (hbW.mono z0)
    replace h1 := (hbW.block _ (by omega)).trans h1
    replace h2 := (hbW.block _ (by omega)).trans h2
    replace h3 := (hbW.block _ (by omega)).trans h3
    have m0 : w1.cell? ⟨w.heap.size + 1 + 1 + 1, 0, none⟩ = some (.int .u64 0) := by rw [cell_row h1]; rfl
    have m1 : w1.cell? ⟨w.heap.size + 1 + 1 + 1, 1, none⟩ = some (.int .u64 0) := by rw [cell_row h1]; rfl
    have m2 : w1.cell? ⟨w.heap.size + 1 + 1 + 1, 2, none⟩ = some (.bool false) := by rw [cell_row h1]; rfl
    have m3 : w1.cell? ⟨w.heap.size + 1 + 1 + 1, 3, none⟩ = some (.int .i64 0) := by rw [cell_row h1]; rfl
    have m4 : w1.cell? ⟨w.heap.size + 1 + 1 + 1, 4, none⟩ = some (.int .i64 0) := by rw [cell_row h1]; rfl
    have r0 : w1.cell? ⟨w.heap.size + 1 + 1, 0, none⟩ = some (.int .u64 0) := by rw [cell_row h3]; rfl
    have r1 : w1.cell? ⟨w.heap.size + 1 + 1, 1, none⟩ = some (.int .u64 0) := by rw [cell_row h3]; rfl
    have r2 : w1.cell? ⟨w.heap.size + 1 + 1, 2, none⟩ = some (.bool false) := by rw [cell_row h3]; rfl
    have r3 : w1.cell? ⟨w.heap.size + 1 + 1, 3, none⟩ = some (.int .i64 0) := by rw [cell_row h3]; rfl
    have r4 : w1.cell? ⟨w.heap.size + 1 + 1, 4, none⟩ = some (.int .i64 0) := by rw [cell_row h3]; rfl
    have q0 := frozen_of_row w1 (w.heap.size + 1 + 1) 0 _ _ h3
    have q1 := frozen_of_row w1 (w.heap.size + 1 + 1) 1 _ _ h3
    have q2 := frozen_of_row w1 (w.heap.size + 1 + 1) 2 _ _ h3
    have q3 := frozen_of_row w1 (w.heap.size + 1 + 1) 3 _ _ h3
    have q4 := frozen_of_row w1 (w.heap.size + 1 + 1) 4 _ _ h3
    have m5 := cell_of_one h2
    replace z9 := lt_of_block h2
    clear h1 h2 h3 hx hbW hw1 hz5
    go_wp2_with fail
    go_region
    all_goals
      go_wp2
      refine bodyPost_ret (v := .tuple #[.agg #[.int .u64 0, .int .u64 0, .bool false, .int .i64 0, .int .i64 0], .bool false]) (by simp [*, results, Try.results42, go_sem] <;> rfl) rfl ⟨rfl, ?_⟩
      refine hb1.trans ?_
      exact ((((((Below.refl _ _).setCell (by simp; omega) _).setCell (by simp; omega) _).setCell (by simp; omega) _).setCell (by simp; omega) _).setCell (by simp; omega) _).drew
end

end Go.Proofs.Ytnepmlhbheaonaa

namespace Go.Proofs.Ytnepmlhbheaonaa
open Go.RowKit Go.Maps Go.Sort Go.Shelf
set_option maxRecDepth 100000

/-- Each once. -/
def ddL : List Int → List Int
  | [] => []
  | x :: r => if x ∈ ddL r then ddL r else x :: ddL r
theorem mem_dd : ∀ (l : List Int) (x : Int), x ∈ ddL l ↔ x ∈ l := by
  intro l
  induction l with
  | nil => intro x; exact Iff.rfl
  | cons y r ih =>
    intro x
    unfold ddL
    split
    · rename_i hy
      rw [ih, List.mem_cons]
      exact ⟨.inr, fun e => e.elim (fun e => e ▸ (ih y).1 hy) id⟩
    · rw [List.mem_cons, List.mem_cons, ih]
theorem nodup_dd : ∀ l : List Int, (ddL l).Nodup := by
  intro l
  induction l with
  | nil => exact List.nodup_nil
  | cons y r ih =>
    unfold ddL
    split
    · exact ih
    · rename_i hy
      exact List.nodup_cons.2 ⟨hy, ih⟩
/-- The hops, rising, each once. -/
def hopS (L : List Pr) : List Int := (ddL (hopsL L)).mergeSort leI
theorem hopS_len (L : List Pr) : (hopS L).length = unl (hopsL L) := by
  unfold hopS
  rw [List.length_mergeSort]
  exact unl_dist (nodup_dd _) (mem_dd _)
theorem dd_perm {w : World} {m n : Nat} {D : DataW Unit} {hs : List Int} (h : cnts w m n D) (hu : Uses D hs) : (ddL hs).Perm (intKeys D) := by
  have hc : CollectedI D (fun _ => false) (ddL hs) := ⟨nodup_dd hs, fun x => by
    rw [mem_dd, hu.has x]
    simp only [decide_eq_true_eq, and_true]
    exact List.count_pos_iff.symm⟩
  exact hc.perm h lawI Try.underlying3 (fun _ => rfl)
/-- A fresh row of numbers. -/
def IntsPost (w : World) (l : List Int) (e : Ending) (w' : World) : Prop := ∃ v, e = .returned v ∧ w'.ownsRow w.heap.size 3 1 v l.length (l.map encZ) ∧ Below w.heap.size w w'
theorem sorts_any (m : Nat) : AnyZI.SortsIn Try.prog Try.sortedA_ren Fence.wide m :=
  ⟨fun blk off cap ss W hH hblk hsz => callsIn_wide.2 (AnyM.slices_Sort_int Try.sortA blk off cap ss W hH hblk hsz),
   fun p cap W => callsIn_wide.2 (AnyM.slices_Sort_int_none Try.sortA p cap W)⟩
theorem keys_calls (mb : Option Nat) (W : World) : Calls Try.prog 62 #[.map mb] W fun e w' => e = .returned (.func (.func 93) #[] #[.pointer (some ⟨W.heap.size, 0, none⟩)]) ∧ w' = W.alloc (.cells #[.map mb] 30) :=
  (callsIn_wide (n := 5)).1 (AnyZI.keys_in Try.keysA Fence.wide 5 trivial rfl mb W)
theorem sorted_calls {b nn : Nat} {D0 : DataW Unit} (w : World) (hown : cnts w b nn D0) (hz : Maps.size D0 ≤ 100000) : Calls Try.prog 61 #[.func (.func 93) #[] #[.pointer (some ⟨w.heap.size, 0, none⟩)]] (w.alloc (.cells #[.map (some b)] 30)) fun e w' => ∃ (v : Value) (ss : List Int), e = .returned v ∧ ss.Perm (intKeys D0) ∧
      w'.ownsRow (w.alloc (.cells #[.map (some b)] 30)).heap.size 3 1 v ss.length ((ss.mergeSort (fun x y => decide (x ≤ y))).map encZ) ∧ (v = .slice none 0 0 ↔ ss = []) ∧ Below (w.alloc (.cells #[.map (some b)] 30)).heap.size (w.alloc (.cells #[.map (some b)] 30)) w' := by
  refine (callsIn_wide (n := 5)).1 ?_
  have hbl := World.ownsMap.lt hown
  have hseq : SeqGives Fence.wide 2 Try.prog 93 #[.pointer (some ⟨w.heap.size, 0, none⟩)] encZ (fun ss => ss.Perm (intKeys D0)) (Maps.size D0) (w.alloc (.cells #[.map (some b)] 30)) :=
    AnyZI.keys_gives (ρ := Try.keysA_ren) { Try.keysA with } Fence.wide _ trivial rfl (by omega) w.heap.size b nn D0 _ (by simp) (by simp) (by
      obtain ⟨es, clock, hb, Ft, hs, hD⟩ := hown
      exact ⟨es, clock, (Below.heap_alloc _ _ b hbl).trans hb, Ft, hs, hD⟩)
  exact AnyZI.sorted_in Try.sortedA Fence.wide 5 trivial trivial trivial trivial rfl (by omega) (sorts_any _) (enters_of Try.func92 (by kernel_rfl) rfl) 93 #[.pointer (some ⟨w.heap.size, 0, none⟩)] trivial (enters_of Try.func93 (by kernel_rfl) rfl) _ _ (by unfold maxLen; omega) (by omega) _ hseq
set_option maxHeartbeats 1000000 in
theorem rib_hops {w : World} {r : Nat} {S : Nat → Prop} {n h : Int} {L : List Pr} {most : Nat} (H : RibS w r S n h L most) : Calls Try.prog 22 #[.pointer (some ⟨r, 0, none⟩)] w (IntsPost w (hopS L)) := by
  obtain ⟨t, m, S0, D, HA, hI, rfl⟩ := H
  obtain ⟨-, c1, -, -⟩ := HA.cells
  have hsz : Maps.size D ≤ 100000 := by
    rw [HA.uses.size]
    have := hI.like
    have := hI.h0
    omega
  have cS := sorted_calls w HA.map hsz
  have hpm := dd_perm HA.map HA.uses
  have CS := Lib.hid cS
  have HPM := Lib.hid hpm
  clear cS hpm HA hI
  go_enter Try.func22, Try.ntmps22
  go_wp2_with fail
  refine (keys_calls (some m) _).mono ?_
  rintro e w1 ⟨rfl, rfl⟩
  go_wp2_with fail
  refine CS.out.mono ?_
  rintro e w2 ⟨v, ss, rfl, hp, hrow, -, hb⟩
  have hms : ss.mergeSort leI = hopS L := mergeSort_of_perm_i (hp.trans HPM.out.symm)
  have hle : ss.length = (hopS L).length := by rw [← hms, List.length_mergeSort]
  have hr2 : w2.ownsRow w.heap.size 3 1 v (hopS L).length ((hopS L).map encZ) := by
    rw [← hle, ← hms]
    exact own_base hrow (by simp)
  have b2 : Below w.heap.size w w2 := ((Below.refl _ w).alloc (Nat.le_refl _) _).trans (hb.mono (by simp))
  have HR2 := Lib.hid hr2
  obtain ⟨A2, c2, rfl, -⟩ := own_val hr2
  clear hrow hr2 hb hp hms hle
  go_wp2
  go_ret
  exact ⟨_, rfl, HR2.out, b2⟩

end Go.Proofs.Ytnepmlhbheaonaa

namespace Go.Proofs.Ytnepmlhbheaonaa
open Go.RowKit Go.Maps
set_option maxRecDepth 100000

/-- A pointer to no routes that were made. -/
def NoRib (w : World) (rv : Value) : Prop := rv = .pointer none ∨ ∃ r, rv = .pointer (some ⟨r, 0, none⟩) ∧ r < w.heap.size ∧ w.cell? ⟨r, 0, none⟩ = some (.pointer none) ∧ w.cell? ⟨r, 1, none⟩ = some (.map none) ∧ w.cell? ⟨r, 2, none⟩ = some (.int .i64 0) ∧ w.cell? ⟨r, 3, none⟩ = some (.int .i64 0)
theorem NoRib.keep {B : Nat} {w w' : World} {rv : Value} (h : NoRib w rv) (hb : Below B w w') (hB : w.heap.size ≤ B) : NoRib w' rv := by
  rcases h with rfl | ⟨t, rfl, ht, c0, c1, c2, c3⟩
  · exact .inl rfl
  · have h' : t < B := Nat.lt_of_lt_of_le ht hB
    exact .inr ⟨t, rfl, Nat.lt_of_lt_of_le ht hb.size, (hb.cell (p := ⟨t, 0, none⟩) h').trans c0, (hb.cell (p := ⟨t, 1, none⟩) h').trans c1, (hb.cell (p := ⟨t, 2, none⟩) h').trans c2, (hb.cell (p := ⟨t, 3, none⟩) h').trans c3⟩
theorem noT (w : World) : NoTrie w (.pointer none) := .inl rfl

section
variable {w : World} {rv : Value}
set_option maxHeartbeats 400000 in
theorem routes_un (h : NoRib w rv) : Calls Try.prog 57 #[rv] w fun e w' => e = .returned (.pointer none) ∧ w = w' := by
  rcases h with rfl | ⟨t, rfl, ht, c0, c1, c2, c3⟩
  all_goals
    go_enter Try.func57, Try.ntmps57
    go_wp2
    go_ret
    exact ⟨rfl, rfl⟩
set_option maxHeartbeats 1000000 in
theorem rsize_un (h : NoRib w rv) : Calls Try.prog 17 #[rv] w fun e w' => e = .returned (.tuple #[.int .i64 0, .int .i64 0, .int .i64 0]) ∧ Below w.heap.size w w' := by
  have HN := Lib.hid h
  clear h
  go_enter Try.func17, Try.ntmps17
  go_wp2_with fail
  refine (routes_un HN.out).mono ?_
  rintro e w1 ⟨rfl, rfl⟩
  go_wp2_with fail
  refine (len_un (noT _)).mono ?_
  rintro e w2 ⟨rfl, rfl⟩
  go_wp2_with fail
  refine (nodes_un (noT _)).mono ?_
  rintro e w3 ⟨rfl, hw3⟩
  go_wp2_with fail
  refine (slots_un (noT _)).mono ?_
  rintro e w4 ⟨rfl, rfl⟩
  go_wp2
  exact bodyPost_ret (v := .tuple #[.int .i64 0, .int .i64 0, .int .i64 0]) (by simp [*, results, Try.results17, go_sem] <;> rfl) rfl ⟨rfl, hw3⟩
set_option maxHeartbeats 1000000 in
theorem rinside_un (h : NoRib w rv) (p : Pf) : Calls Try.prog 20 #[rv, .agg #[.int .u64 (u p.a.hi), .int .u64 (u p.a.lo), .bool p.a.v6, .int .i64 p.n]] w fun e w' => e = .returned (.bool false) ∧ Below w.heap.size w w' := by
  have HN := Lib.hid h
  clear h
  go_enter Try.func20, Try.ntmps20
  go_wp2_with fail
  generalize hW : World.alloc _ _ = W
  have hz : w.heap.size ≤ W.heap.size := by subst hW; go_size
  have hB : Below w.heap.size w W := by subst hW; go_grown
  have hpb : PBox W w.heap.size p := by subst hW; exact ⟨by go_simp <;> rfl, by go_simp <;> rfl, by go_simp <;> rfl, by go_simp <;> rfl, by go_simp <;> rfl, by go_simp <;> rfl, by go_simp <;> rfl, by go_simp <;> rfl, by go_size⟩
  obtain ⟨pa, pb, pc, pd, -, -, -, -, pz⟩ := hpb
  have HV := Lib.hid (HN.out.keep hB (Nat.le_refl _))
  clear hW
  have La := fun x : Later W.heap.size W => (x.cell pz).trans pa
  have Lb := fun x : Later W.heap.size W => (x.cell pz).trans pb
  have Lc := fun x : Later W.heap.size W => (x.cell pz).trans pc
  have Ld := fun x : Later W.heap.size W => (x.cell pz).trans pd
  refine region_later W.heap.size (by kernel_rfl) (by kernel_rfl) ?_
  repeat (go_big_quiet_step (first | (go_at_call 47; exact later_of (Nat.le_refl _) (inside_un (noT _) p)) | (go_at_call 57; exact later_same (routes_un (HV.out.keep (Later.below _) (Nat.le_refl _))))))
  refine wpQuiet_nil ?_
  intro x
  have hx := x.below
  generalize x.at = V at hx ⊢
  clear x La Lb Lc Ld pa pb pc pd
  go_wp2
  go_ret
  exact ⟨rfl, hB.trans (hx.mono hz)⟩
set_option maxHeartbeats 1000000 in
theorem rwithdraw_un (h : NoRib w rv) (p : Pf) : Calls Try.prog 19 #[rv, .agg #[.int .u64 (u p.a.hi), .int .u64 (u p.a.lo), .bool p.a.v6, .int .i64 p.n]] w fun e w' => e = .returned (.int .i64 (if psane p = true then 2 else 1)) ∧ Below w.heap.size w w' := by
  have HN := Lib.hid h
  clear h
  obtain ⟨E, hE⟩ : ∃ E : Int, (if psane p = true then (2 : Int) else 1) = E := ⟨_, rfl⟩
  rw [hE]
  have cD : ∀ W : World, Calls Try.prog 44 #[.pointer none, .agg #[.int .u64 (u p.a.hi), .int .u64 (u p.a.lo), .bool p.a.v6, .int .i64 p.n]] W fun e w' => e = .returned (.int .i64 E) ∧ Below W.heap.size W w' := fun W => by
    have := del_un (noT W) p
    rw [hE] at this
    exact this
  have CD := Lib.hid cD
  clear cD hE
  go_enter Try.func19, Try.ntmps19
  go_wp2_with fail
  generalize hW : World.alloc _ _ = W
  have hz : w.heap.size ≤ W.heap.size := by subst hW; go_size
  have hB : Below w.heap.size w W := by subst hW; go_grown
  have hpb : PBox W w.heap.size p := by subst hW; exact ⟨by go_simp <;> rfl, by go_simp <;> rfl, by go_simp <;> rfl, by go_simp <;> rfl, by go_simp <;> rfl, by go_simp <;> rfl, by go_simp <;> rfl, by go_simp <;> rfl, by go_size⟩
  have HPB := Lib.hid hpb
  obtain ⟨pa, pb, pc, pd, -, -, -, -, pz⟩ := hpb
  have HV := Lib.hid (HN.out.keep hB (Nat.le_refl _))
  clear hW
  have La := fun x : Later W.heap.size W => (x.cell pz).trans pa
  have Lb := fun x : Later W.heap.size W => (x.cell pz).trans pb
  have Lc := fun x : Later W.heap.size W => (x.cell pz).trans pc
  have Ld := fun x : Later W.heap.size W => (x.cell pz).trans pd
  refine region_later W.heap.size (by kernel_rfl) (by kernel_rfl) ?_
  repeat (go_big_quiet_step (first | (go_at_call 41; exact later_of (Nat.le_refl _) (get_un (noT _) p)) | (go_at_call 57; exact later_same (routes_un (HV.out.keep (Later.below _) (Nat.le_refl _))))))
  refine wpQuiet_nil ?_
  intro x
  have hx := x.below
  generalize x.at = V at hx ⊢
  clear x La Lb Lc Ld pa pb pc pd pz
  have bV := hB.trans (hx.mono hz)
  have HV2 := Lib.hid (HV.out.keep hx (Nat.le_refl _))
  have HPV := Lib.hid (HPB.out.keep hx)
  clear hx HV HPB hB hz
  obtain ⟨W, rfl⟩ : ∃ W, W = V := ⟨_, rfl⟩
  obtain ⟨pa, pb, pc, pd, -, -, -, -, pz⟩ := id HPV.out
  have La := fun x : Later W.heap.size W => (x.cell pz).trans pa
  have Lb := fun x : Later W.heap.size W => (x.cell pz).trans pb
  have Lc := fun x : Later W.heap.size W => (x.cell pz).trans pc
  have Ld := fun x : Later W.heap.size W => (x.cell pz).trans pd
  go_wp2_with fail
  refine region_later W.heap.size (by kernel_rfl) (by kernel_rfl) ?_
  repeat (go_big_quiet_step (first | (go_at_call 44; exact later_of (Nat.le_refl _) (CD.out _)) | (go_at_call 57; exact later_same (routes_un (HV2.out.keep (Later.below _) (Nat.le_refl _))))))
  refine wpQuiet_nil ?_
  intro x
  have hx := x.below
  generalize x.at = V2 at hx ⊢
  clear x La Lb Lc Ld pa pb pc pd
  go_wp2
  go_ret
  exact ⟨rfl, bV.trans (hx.mono bV.size)⟩
set_option maxHeartbeats 1000000 in
theorem rgoverns_un (h : NoRib w rv) (p : Pf) : Calls Try.prog 16 #[rv, .agg #[.int .u64 (u p.a.hi), .int .u64 (u p.a.lo), .bool p.a.v6, .int .i64 p.n]] w fun e w' => e = .returned (.tuple #[.agg #[.int .u64 0, .int .u64 0, .bool false, .int .i64 0, .int .i64 0], .bool false]) ∧ Below w.heap.size w w' := by
  have HN := Lib.hid h
  clear h
  go_enter Try.func16, Try.ntmps16
  go_wp2_with fail
  generalize hW : World.alloc _ _ = W
  have hz : w.heap.size ≤ W.heap.size := by subst hW; go_size
  have hB : Below w.heap.size w W := by subst hW; go_grown
  have hpb : PBox W w.heap.size p := by subst hW; exact ⟨by go_simp <;> rfl, by go_simp <;> rfl, by go_simp <;> rfl, by go_simp <;> rfl, by go_simp <;> rfl, by go_simp <;> rfl, by go_simp <;> rfl, by go_simp <;> rfl, by go_size⟩
  have h3 : W.heap[w.heap.size + 1]? = some (.cells #[.int .u64 0, .int .u64 0, .bool false, .int .i64 0, .int .i64 0] 37 (0, 0)) := by subst hW; repeat (first | (refine hp_new ?_; (simp; done)) | (refine hp_old ?_ ?_; · (first | (simp; done) | (simp; omega))))
  have z9 := lt_of_block h3
  obtain ⟨pa, pb, pc, pd, -, -, -, -, pz⟩ := hpb
  have HV := Lib.hid (HN.out.keep hB (Nat.le_refl _))
  clear hW
  have La := fun x : Later W.heap.size W => (x.cell pz).trans pa
  have Lb := fun x : Later W.heap.size W => (x.cell pz).trans pb
  have Lc := fun x : Later W.heap.size W => (x.cell pz).trans pc
  have Ld := fun x : Later W.heap.size W => (x.cell pz).trans pd
  refine region_later W.heap.size (by kernel_rfl) (by kernel_rfl) ?_
  repeat (go_big_quiet_step (first | (go_at_call 45; exact later_of (Nat.le_refl _) (above_un (noT _) p)) | (go_at_call 57; exact later_same (routes_un (HV.out.keep (Later.below _) (Nat.le_refl _))))))
  refine wpQuiet_nil ?_
  intro x
  have hx := x.below
  generalize x.at = V at hx ⊢
  clear x La Lb Lc Ld pa pb pc pd pz
  have b5 := hB.trans (hx.mono hz)
  have h5 := (hx.block _ z9).trans h3
  clear hx h3 hB hz
  have r0 : V.cell? ⟨w.heap.size + 1, 0, none⟩ = some (.int .u64 0) := by rw [cell_row h5]; rfl
  have r1 : V.cell? ⟨w.heap.size + 1, 1, none⟩ = some (.int .u64 0) := by rw [cell_row h5]; rfl
  have r2 : V.cell? ⟨w.heap.size + 1, 2, none⟩ = some (.bool false) := by rw [cell_row h5]; rfl
  have r3 : V.cell? ⟨w.heap.size + 1, 3, none⟩ = some (.int .i64 0) := by rw [cell_row h5]; rfl
  have r4 : V.cell? ⟨w.heap.size + 1, 4, none⟩ = some (.int .i64 0) := by rw [cell_row h5]; rfl
  have q0 := frozen_of_row V (w.heap.size + 1) 0 _ _ h5
  have q1 := frozen_of_row V (w.heap.size + 1) 1 _ _ h5
  have q2 := frozen_of_row V (w.heap.size + 1) 2 _ _ h5
  have q3 := frozen_of_row V (w.heap.size + 1) 3 _ _ h5
  have q4 := frozen_of_row V (w.heap.size + 1) 4 _ _ h5
  clear h5
  go_wp2
  refine bodyPost_ret (v := .tuple #[.agg #[.int .u64 0, .int .u64 0, .bool false, .int .i64 0, .int .i64 0], .bool false]) (by simp [*, results, Try.results16, go_sem] <;> rfl) rfl ⟨rfl, ?_⟩
  exact b5.trans (((((((Below.refl _ _).setCell (by simp) _).setCell (by simp) _).setCell (by simp) _).setCell (by simp) _).setCell (by simp) _))
end

end Go.Proofs.Ytnepmlhbheaonaa

namespace Go.Proofs.Ytnepmlhbheaonaa
open Go.RowKit Go.Maps Go.Sort Go.Shelf
set_option maxRecDepth 100000

section
variable {w : World} {rv : Value}
theorem sorted_nil (w : World) : Calls Try.prog 61 #[.func (.func 93) #[] #[.pointer (some ⟨w.heap.size, 0, none⟩)]] (w.alloc (.cells #[.map none] 30)) fun e w' => e = .returned (.slice none 0 0) ∧ Below (w.alloc (.cells #[.map none] 30)).heap.size (w.alloc (.cells #[.map none] 30)) w' := by
  refine (callsIn_wide (n := 5)).1 ?_
  have hseq : SeqGives Fence.wide 2 Try.prog 93 #[.pointer (some ⟨w.heap.size, 0, none⟩)] encZ (fun ss : List Int => ss = []) 0 (w.alloc (.cells #[.map none] 30)) :=
    AnyZI.keys_gives_nil (ρ := Try.keysA_ren) { Try.keysA with } Fence.wide _ trivial rfl w.heap.size _ (by simp) (by simp)
  refine (AnyZI.sorted_in Try.sortedA Fence.wide 5 trivial trivial trivial trivial rfl (by omega) (sorts_any _) (enters_of Try.func92 (by kernel_rfl) rfl) 93 #[.pointer (some ⟨w.heap.size, 0, none⟩)] trivial (enters_of Try.func93 (by kernel_rfl) rfl) _ 0 (Nat.zero_le _) (by omega) _ hseq).mono ?_
  rintro e w' ⟨v, ss, rfl, rfl, hrow, hnil, hb⟩
  obtain rfl : v = .slice none 0 0 := hnil.2 rfl
  exact ⟨rfl, hb⟩
set_option maxHeartbeats 1000000 in
theorem rhops_un (h : NoRib w rv) : Calls Try.prog 22 #[rv] w fun e w' => e = .returned (.slice none 0 0) ∧ Below w.heap.size w w' := by
  rcases h with rfl | ⟨t, rfl, ht, c0, c1, c2, c3⟩
  · go_enter Try.func22, Try.ntmps22
    go_wp2
    go_ret
    exact ⟨rfl, Below.refl _ _⟩
  · go_enter Try.func22, Try.ntmps22
    go_wp2_with fail
    refine (keys_calls none _).mono ?_
    rintro e w1 ⟨rfl, rfl⟩
    go_wp2_with fail
    refine (sorted_nil w).mono ?_
    rintro e w2 ⟨rfl, hb⟩
    have b2 : Below w.heap.size w w2 := ((Below.refl _ w).alloc (Nat.le_refl _) _).trans (hb.mono (by simp))
    clear hb
    go_wp2
    go_ret
    exact ⟨rfl, b2⟩
set_option maxHeartbeats 1000000 in
theorem rdump_un (h : NoRib w rv) : Calls Try.prog 21 #[rv] w fun e w' => e = .returned (.slice none 0 0) ∧ Below w.heap.size w w' := by
  have HN := Lib.hid h
  have c4 : ∀ W : World, Calls Try.prog 46 #[.pointer none, .agg #[.int .u64 0, .int .u64 0, .bool false, .int .i64 0]] W fun e w' => e = .returned (.slice none 0 0) ∧ Below W.heap.size W w' := fun W => under_un (noT W) root4
  have c6 : ∀ W : World, Calls Try.prog 46 #[.pointer none, .agg #[.int .u64 0, .int .u64 0, .bool true, .int .i64 0]] W fun e w' => e = .returned (.slice none 0 0) ∧ Below W.heap.size W w' := fun W => under_un (noT W) root6
  have C4 := Lib.hid c4
  have C6 := Lib.hid c6
  clear h c4 c6
  go_enter Try.func21, Try.ntmps21
  go_wp2_with fail
  refine wp_loop_rounds 3 ?_
  rw [rounds_succ]
  go_wp2_with fail
  refine (routes_un HN.out).mono ?_
  rintro e w1 ⟨rfl, rfl⟩
  go_wp2_with fail
  refine (C4.out _).mono ?_
  rintro e w2 ⟨rfl, hw2⟩
  have HN2 := Lib.hid (HN.out.keep hw2 (Nat.le_refl _))
  go_wp2_with fail
  refine wp_loop_rounds 1 ?_
  rw [rounds_succ]
  go_wp2_with fail
  rw [rounds_succ]
  go_wp2_with fail
  refine (routes_un HN2.out).mono ?_
  rintro e w3 ⟨rfl, rfl⟩
  go_wp2_with fail
  refine (C6.out _).mono ?_
  rintro e w4 ⟨rfl, hw4⟩
  have b4 := hw2.trans (hw4.mono hw2.size)
  go_wp2_with fail
  refine wp_loop_rounds 1 ?_
  rw [rounds_succ]
  go_wp2_with fail
  rw [rounds_succ]
  go_wp2
  go_ret
  exact ⟨rfl, b4⟩
def addU (p : Pf) (k : Int) : Int := if psane p = true then (if 0 ≤ k ∧ k ≤ 65535 then 3 else 4) else 1
set_option maxHeartbeats 1000000 in
theorem rfits_un (h : NoRib w rv) (p : Pf) (k : Int) (hk : 0 ≤ k ∧ k ≤ 65535) : Calls Try.prog 59 #[rv, .agg #[.int .u64 (u p.a.hi), .int .u64 (u p.a.lo), .bool p.a.v6, .int .i64 p.n], .int .i64 k] w fun e w' => e = .returned (.bool false) ∧ Below w.heap.size w w' := by
  have HN := Lib.hid h
  rcases h with rfl | ⟨r, rfl, ht, c0, c1, c2, c3⟩
  · go_enter Try.func59, Try.ntmps59
    go_wp2
    go_ret
    exact ⟨rfl, by go_grown⟩
  · clear ht c0 c1 c2 c3
    go_enter Try.func59, Try.ntmps59
    go_wp2_with fail
    generalize hW : World.alloc _ _ = W
    have hz : w.heap.size ≤ W.heap.size := by subst hW; go_size
    have hB : Below w.heap.size w W := by subst hW; go_grown
    have hpb : PBox W w.heap.size p := by subst hW; exact ⟨by go_simp <;> rfl, by go_simp <;> rfl, by go_simp <;> rfl, by go_simp <;> rfl, by go_simp <;> rfl, by go_simp <;> rfl, by go_simp <;> rfl, by go_simp <;> rfl, by go_size⟩
    have HPB := Lib.hid hpb
    have HV := Lib.hid (HN.out.keep hB (Nat.le_refl _))
    clear hW hpb
    have key : ∀ W, NoRib W (.pointer (some ⟨r, 0, none⟩)) → r < W.heap.size ∧ W.cell? ⟨r, 0, none⟩ = some (.pointer none) ∧ W.cell? ⟨r, 1, none⟩ = some (.map none) ∧ W.cell? ⟨r, 2, none⟩ = some (.int .i64 0) ∧ W.cell? ⟨r, 3, none⟩ = some (.int .i64 0) := by
      rintro W (e | ⟨r', e, ht, c0, c1, c2, c3⟩)
      · cases e
      · cases e
        exact ⟨ht, c0, c1, c2, c3⟩
    have KEY := Lib.hid key
    clear key
    obtain ⟨rz, c0, c1, -, -⟩ := KEY.out _ HV.out
    have L0 := fun x : Later W.heap.size W => (x.cell rz).trans c0
    have L1 := fun x : Later W.heap.size W => (x.cell rz).trans c1
    have LL : ∀ (x : Later W.heap.size W) (ty : TypeId), (Builtin.len_ #[30] ty #[.map none]).run Try.prog x.at = .ok (.int .i64 0) x.at := fun x ty => Maps.len_nil Try.underlying30 ty
    refine region_later W.heap.size (by kernel_rfl) (by kernel_rfl) ?_
    repeat (go_big_quiet_step ((go_at_call 48; exact later_same (len_un (noT _)))))
    refine wpQuiet_nil ?_
    intro x
    have hx := x.below
    generalize x.at = V at hx ⊢
    clear x L0 L1 LL c0 c1 rz
    have bV := hB.trans (hx.mono hz)
    have HV2 := Lib.hid (HV.out.keep hx (Nat.le_refl _))
    have HPV := Lib.hid (HPB.out.keep hx)
    clear hx HV HPB hB hz
    obtain ⟨W, rfl⟩ : ∃ W, W = V := ⟨_, rfl⟩
    obtain ⟨pa, pb, pc, pd, -, -, -, -, pz⟩ := id HPV.out
    obtain ⟨rz, c0, -, -, -⟩ := KEY.out _ HV2.out
    have L0 := fun x : Later W.heap.size W => (x.cell rz).trans c0
    have La := fun x : Later W.heap.size W => (x.cell pz).trans pa
    have Lb := fun x : Later W.heap.size W => (x.cell pz).trans pb
    have Lc := fun x : Later W.heap.size W => (x.cell pz).trans pc
    have Ld := fun x : Later W.heap.size W => (x.cell pz).trans pd
    go_wp2_with fail
    refine region_later W.heap.size (by kernel_rfl) (by kernel_rfl) ?_
    repeat (go_big_quiet_step ((go_at_call 41; exact later_of (Nat.le_refl _) (get_un (noT _) p))))
    refine wpQuiet_nil ?_
    intro x
    have hx := x.below
    generalize x.at = V at hx ⊢
    clear x L0 La Lb Lc Ld c0 pa pb pc pd pz rz
    obtain ⟨rz, c0, c1, c2, c3⟩ := KEY.out _ (HV2.out.keep hx (Nat.le_refl _))
    have b2 := bV.trans (hx.mono bV.size)
    have lk0 := Maps.look_nil (w := V) false lawI Try.underlying30 (zeroI V) (keyOf_int_mk Try.underlying3 (wf_hop hk))
    clear hx HV2 HPV KEY bV
    go_wp2
    go_ret
    exact ⟨rfl, b2⟩
set_option maxHeartbeats 1000000 in
theorem radd_un (h : NoRib w rv) (p : Pf) (k : Int) : Calls Try.prog 18 #[rv, .agg #[.int .u64 (u p.a.hi), .int .u64 (u p.a.lo), .bool p.a.v6, .int .i64 p.n], .int .i64 k] w fun e w' => e = .returned (.int .i64 (addU p k)) ∧ Below w.heap.size w w' := by
  have HN := Lib.hid h
  clear h
  cases hp : psane p
  · have e1 : addU p k = 1 := by unfold addU; rw [hp]; rfl
    rw [e1]
    have hs' : (!psane p) = true := by simp [hp]
    clear hp e1
    go_enter Try.func18, Try.ntmps18
    go_wp2_with fail
    refine (psane_any p _).mono ?_
    rintro e w2 ⟨rfl, hw2⟩
    have zw2 := hw2.size
    have bw2 := below_of (w := w) (by go_grown) hw2
    try simp at zw2
    obtain ⟨p1a, p1b, p1c, p1g, p1d, p1e, p1f, p1h, p1z⟩ := cells4 (b := w.heap.size) hw2 (by go_size) (by go_simp <;> rfl) (by go_simp <;> rfl) (by go_simp <;> rfl) (by go_simp <;> rfl) (by go_simp <;> rfl) (by go_simp <;> rfl) (by go_simp <;> rfl) (by go_simp <;> rfl)
    clear hw2
    go_wp2
    go_ret
    exact ⟨rfl, bw2⟩
  · have hs' : (!psane p) = false := by simp [hp]
    by_cases hk : 0 ≤ k ∧ k ≤ 65535
    · have e1 : addU p k = 3 := by unfold addU; rw [if_pos hp, if_pos hk]
      rw [e1]
      have t1 : decide (k < 0) = false := by simp; omega
      have t2 : decide (65535 < k) = false := by simp; omega
      clear hp e1
      go_enter Try.func18, Try.ntmps18
      go_wp2_with fail
      refine (psane_any p _).mono ?_
      rintro e w2 ⟨rfl, hw2⟩
      have zw2 := hw2.size
      have bw2 := below_of (w := w) (by go_grown) hw2
      try simp at zw2
      obtain ⟨p2a, p2b, p2c, p2g, p2d, p2e, p2f, p2h, p2z⟩ := cells4 (b := w.heap.size) hw2 (by go_size) (by go_simp <;> rfl) (by go_simp <;> rfl) (by go_simp <;> rfl) (by go_simp <;> rfl) (by go_simp <;> rfl) (by go_simp <;> rfl) (by go_simp <;> rfl) (by go_simp <;> rfl)
      clear hw2
      go_wp2_with fail
      refine (rfits_un (HN.out.keep bw2 (Nat.le_refl _)) p k hk).mono ?_
      rintro e w3 ⟨rfl, hw3⟩
      have zw3 := hw3.size
      have bw3 := below_of (w := w) (by go_grown) hw3
      try simp at zw3
      have hw2b := below_of (w := w2) (by go_grown) hw3
      obtain ⟨p3a, p3b, p3c, p3g, p3d, p3e, p3f, p3h, p3z⟩ := cells4 hw2b p2z p2a p2b p2c p2g p2d p2e p2f p2h
      clear p2a p2b p2c p2g p2d p2e p2f p2h p2z hw3 hw2b
      go_wp2
      go_ret
      exact ⟨rfl, bw3⟩
    · have e1 : addU p k = 4 := by unfold addU; rw [if_pos hp, if_neg hk]
      rw [e1]
      have HK := Lib.hid hk
      clear hp e1 hk
      by_cases h1 : k < 0
      · have t1 : decide (k < 0) = true := by simp; omega
        go_enter Try.func18, Try.ntmps18
        go_wp2_with fail
        refine (psane_any p _).mono ?_
        rintro e w2 ⟨rfl, hw2⟩
        have zw2 := hw2.size
        have bw2 := below_of (w := w) (by go_grown) hw2
        try simp at zw2
        obtain ⟨p4a, p4b, p4c, p4g, p4d, p4e, p4f, p4h, p4z⟩ := cells4 (b := w.heap.size) hw2 (by go_size) (by go_simp <;> rfl) (by go_simp <;> rfl) (by go_simp <;> rfl) (by go_simp <;> rfl) (by go_simp <;> rfl) (by go_simp <;> rfl) (by go_simp <;> rfl) (by go_simp <;> rfl)
        clear hw2
        go_wp2
        go_ret
        exact ⟨rfl, bw2⟩
      · have t1 : decide (k < 0) = false := by simp; omega
        have t2 : decide (65535 < k) = true := by have := HK.out; simp; omega
        go_enter Try.func18, Try.ntmps18
        go_wp2_with fail
        refine (psane_any p _).mono ?_
        rintro e w2 ⟨rfl, hw2⟩
        have zw2 := hw2.size
        have bw2 := below_of (w := w) (by go_grown) hw2
        try simp at zw2
        obtain ⟨p5a, p5b, p5c, p5g, p5d, p5e, p5f, p5h, p5z⟩ := cells4 (b := w.heap.size) hw2 (by go_size) (by go_simp <;> rfl) (by go_simp <;> rfl) (by go_simp <;> rfl) (by go_simp <;> rfl) (by go_simp <;> rfl) (by go_simp <;> rfl) (by go_simp <;> rfl) (by go_simp <;> rfl)
        clear hw2
        go_wp2
        go_ret
        exact ⟨rfl, bw2⟩
end

end Go.Proofs.Ytnepmlhbheaonaa

namespace Go.Proofs.Ytnepmlhbheaonaa
open Go.RowKit Go.Maps
set_option maxRecDepth 100000

set_option maxHeartbeats 2000000 in
theorem rlongest_un {w : World} {rv : Value} (h : NoRib w rv) (a : Ad) : Calls Try.prog 15 #[rv, .agg #[.int .u64 (u a.hi), .int .u64 (u a.lo), .bool a.v6]] w fun e w' => e = .returned (.tuple #[.agg #[.int .u64 0, .int .u64 0, .bool false, .int .i64 0, .int .i64 0], .bool false]) ∧ Below w.heap.size w w' := by
  have HN := Lib.hid h
  clear h
  go_enter Try.func15, Try.ntmps15
  go_upto_region 1 with fail
  generalize hW : World.alloc _ _ = W
  have hz : w.heap.size ≤ W.heap.size := by subst hW; go_size
  have hB : Below w.heap.size w W := by subst hW; go_grown
  have pa : W.cell? ⟨w.heap.size, 0, none⟩ = some (.int .u64 (u a.hi)) := by subst hW; go_simp <;> rfl
  have pb : W.cell? ⟨w.heap.size, 1, none⟩ = some (.int .u64 (u a.lo)) := by subst hW; go_simp <;> rfl
  have pc : W.cell? ⟨w.heap.size, 2, none⟩ = some (.bool a.v6) := by subst hW; go_simp <;> rfl
  have h3 : W.heap[w.heap.size + 1]? = some (.cells #[.int .u64 0, .int .u64 0, .bool false, .int .i64 0, .int .i64 0] 37 (0, 0)) := by subst hW; repeat (first | (refine hp_new ?_; (simp; done)) | (refine hp_old ?_ ?_; · (first | (simp; done) | (simp; omega))))
  have z9 := lt_of_block h3
  have pz : w.heap.size < W.heap.size := by omega
  have HV := Lib.hid (HN.out.keep hB (Nat.le_refl _))
  clear hW HN
  go_cut [6, 7] (fun b s wx => s = .bool false ∧ ∃ q, b = .pointer (some ⟨q, 0, none⟩) ∧ QBox wx q nilPr ∧ Below W.heap.size W wx)
  case first =>
    go_region_held3 (fun w' => w'.cell? ⟨w.heap.size, 0, none⟩ = some (.int .u64 (u a.hi)) ∧ w'.cell? ⟨w.heap.size, 1, none⟩ = some (.int .u64 (u a.lo)) ∧ w'.cell? ⟨w.heap.size, 2, none⟩ = some (.bool a.v6) ∧ Below W.heap.size W w')
      (first | exact keep3L hk5 pz pa pb pc | (refine keep3L ?_ pz pa pb pc; go_grown))
      (first | (go_at_call 57; refine (routes_un (HV.out.keep (B := W.heap.size) (by go_grown) (Nat.le_refl _))).mono ?_; rintro e w4 ⟨rfl, rfl⟩) | (go_at_call 42; refine (longest_un (noT _) a).mono ?_; rintro e w5 ⟨rfl, hw5⟩; have hk5 := below_of (w := W) (by go_grown) hw5; have zk5 := hk5.size; (try (refine y5_then (b := W.heap.size) (c0 := .int .u64 0) (c1 := .int .u64 0) (c2 := .bool false) (c3 := .int .i64 0) (c4 := .int .i64 0) hw5 ?_ ?_ ?_ ?_ ?_ ?_ ?_ ?_ ?_ ?_ ?_ (fun y4 => ?_); go_size; go_simp; go_simp; go_simp; go_simp; go_simp; go_simp; go_simp; go_simp; go_simp; go_simp; obtain ⟨ya, yb, yc, yg, yi, yd, ye, yf, yh, yj, yz⟩ := y4))))
    all_goals (go_wp2_with fail; go_meet)
    all_goals
      refine ⟨rfl, _, rfl, ⟨?_, ?_, ?_, ?_, ?_, ?_⟩, ?_⟩
      all_goals first | (go_simp; done) | (go_simp <;> rfl) | go_size | go_grown
  case rest =>
    obtain ⟨rfl, q, rfl, ⟨ya, yb, yc, yg, yi, yz⟩, hbc⟩ := hcut
    have h3' := (hbc.block _ z9).trans h3
    have b5 := hB.trans (hbc.mono hz)
    have hbz := hbc.size
    clear h3 hbc pa pb pc pz HV
    go_wp2_with fail
    refine (route_any nilPr _).mono ?_
    rintro e w6 ⟨rfl, hw6⟩
    have h6 := (hw6.block (w.heap.size + 1) (by omega)).trans h3'
    have b6 := b5.trans (hw6.mono b5.size)
    have r0 : w6.cell? ⟨w.heap.size + 1, 0, none⟩ = some (.int .u64 0) := by rw [cell_row h6]; rfl
    have r1 : w6.cell? ⟨w.heap.size + 1, 1, none⟩ = some (.int .u64 0) := by rw [cell_row h6]; rfl
    have r2 : w6.cell? ⟨w.heap.size + 1, 2, none⟩ = some (.bool false) := by rw [cell_row h6]; rfl
    have r3 : w6.cell? ⟨w.heap.size + 1, 3, none⟩ = some (.int .i64 0) := by rw [cell_row h6]; rfl
    have r4 : w6.cell? ⟨w.heap.size + 1, 4, none⟩ = some (.int .i64 0) := by rw [cell_row h6]; rfl
    have q0 := frozen_of_row w6 (w.heap.size + 1) 0 _ _ h6
    have q1 := frozen_of_row w6 (w.heap.size + 1) 1 _ _ h6
    have q2 := frozen_of_row w6 (w.heap.size + 1) 2 _ _ h6
    have q3 := frozen_of_row w6 (w.heap.size + 1) 3 _ _ h6
    have q4 := frozen_of_row w6 (w.heap.size + 1) 4 _ _ h6
    clear h6 h3' hw6 ya yb yc yg yi
    go_wp2
    refine bodyPost_ret (v := .tuple #[.agg #[.int .u64 (u nilPr.p.a.hi), .int .u64 (u nilPr.p.a.lo), .bool nilPr.p.a.v6, .int .i64 nilPr.p.n, .int .i64 nilPr.v], .bool false]) (by simp [*, results, Try.results15, go_sem] <;> rfl) rfl ⟨rfl, ?_⟩
    exact b6.trans (((((((Below.refl _ _).setCell (by simp) _).setCell (by simp) _).setCell (by simp) _).setCell (by simp) _).setCell (by simp) _))

theorem keepV {W w' : World} {g c i : Nat} {tv q0 q1 q2 : Value} (h : Below W.heap.size W w') (gz : g < W.heap.size) (cz : c < W.heap.size) (h0 : W.cell? ⟨g, i, none⟩ = some tv) (h1 : W.cell? ⟨c, 0, none⟩ = some q0) (h2 : W.cell? ⟨c, 1, none⟩ = some q1) (h3 : W.cell? ⟨c, 2, none⟩ = some q2) :
    w'.cell? ⟨g, i, none⟩ = some tv ∧ w'.cell? ⟨c, 0, none⟩ = some q0 ∧ w'.cell? ⟨c, 1, none⟩ = some q1 ∧ w'.cell? ⟨c, 2, none⟩ = some q2 ∧ Below W.heap.size W w' :=
  ⟨(h.cell (p := ⟨g, i, none⟩) gz).trans h0, (h.cell (p := ⟨c, 0, none⟩) cz).trans h1, (h.cell (p := ⟨c, 1, none⟩) cz).trans h2, (h.cell (p := ⟨c, 2, none⟩) cz).trans h3, h⟩
theorem keepV4 {W w' : World} {g c i : Nat} {tv q0 q1 q2 q3 : Value} (h : Below W.heap.size W w') (gz : g < W.heap.size) (cz : c < W.heap.size) (h0 : W.cell? ⟨g, i, none⟩ = some tv) (h1 : W.cell? ⟨c, 0, none⟩ = some q0) (h2 : W.cell? ⟨c, 1, none⟩ = some q1) (h3 : W.cell? ⟨c, 2, none⟩ = some q2) (h4 : W.cell? ⟨c, 3, none⟩ = some q3) :
    w'.cell? ⟨g, i, none⟩ = some tv ∧ w'.cell? ⟨c, 0, none⟩ = some q0 ∧ w'.cell? ⟨c, 1, none⟩ = some q1 ∧ w'.cell? ⟨c, 2, none⟩ = some q2 ∧ w'.cell? ⟨c, 3, none⟩ = some q3 ∧ Below W.heap.size W w' :=
  ⟨(h.cell (p := ⟨g, i, none⟩) gz).trans h0, (h.cell (p := ⟨c, 0, none⟩) cz).trans h1, (h.cell (p := ⟨c, 1, none⟩) cz).trans h2, (h.cell (p := ⟨c, 2, none⟩) cz).trans h3, (h.cell (p := ⟨c, 3, none⟩) cz).trans h4, h⟩

end Go.Proofs.Ytnepmlhbheaonaa
