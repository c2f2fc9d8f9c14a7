/-
  What text.longestRun returns. Condition: the eight texts lie where the argument says.
-/
import Derived.Test.YtgmlpcmplglnoaaDoorTp
namespace Go.Proofs.YtgmlpcmplglnoaaDoor
open Go.RowKit
set_option maxRecDepth 100000

/-- How many stand first that are true. -/
def runL : List Bool → Nat
  | true :: t => runL t + 1
  | _ => 0
/-- The longest run: where it begins, where it is over; the first one of several. -/
def bestGo : List Bool → Nat → Nat × Nat → Nat × Nat
  | [], _, p => p
  | b :: Z, i, p => bestGo Z (i + 1) (if p.2 - p.1 < runL (b :: Z) then (i, i + runL (b :: Z)) else p)
def isZ (l : List UInt8) : Bool := l == [48]
def zl (G : List (List UInt8)) : List Bool := G.map isZ
theorem runL_le : ∀ Z : List Bool, runL Z ≤ Z.length
  | [] => by simp [runL]
  | true :: t => by have := runL_le t; simp [runL]; omega
  | false :: t => by simp [runL]
theorem runL_step (Z : List Bool) (j : Nat) (h : Z[j]? = some true) : runL (Z.drop j) = runL (Z.drop (j + 1)) + 1 := by
  obtain ⟨hj, e⟩ := List.getElem?_eq_some_iff.1 h
  rw [List.drop_eq_getElem_cons hj, e]
  rfl
theorem runL_stop (Z : List Bool) (j : Nat) (h : Z[j]? = some false) : runL (Z.drop j) = 0 := by
  obtain ⟨hj, e⟩ := List.getElem?_eq_some_iff.1 h
  rw [List.drop_eq_getElem_cons hj, e]
  rfl
theorem runL_end (Z : List Bool) (j : Nat) (h : Z.length ≤ j) : runL (Z.drop j) = 0 := by
  rw [List.drop_eq_nil_of_le h]
  rfl
theorem bestGo_step (Z : List Bool) (i : Nat) (p : Nat × Nat) (h : i < Z.length) : bestGo (Z.drop i) i p = bestGo (Z.drop (i + 1)) (i + 1) (if p.2 - p.1 < runL (Z.drop i) then (i, i + runL (Z.drop i)) else p) := by
  rw [List.drop_eq_getElem_cons h]
  rfl

set_option maxHeartbeats 2000000 in
theorem longestRun_any (g c : Nat) (G : List (List UInt8)) (hn : G.length = 8) (w : World) (hcell : ∀ j x, G[j]? = some x → w.cell? ⟨g, j, none⟩ = some (.string ⟨x.toArray⟩)) :
    Calls Tryd.prog 56 #[.slice (some ⟨g, 0, none⟩) 8 c] w fun e w' => e = .returned (.tuple #[.int .i64 (bestGo (zl G) 0 (0, 0)).1, .int .i64 (bestGo (zl G) 0 (0, 0)).2]) ∧ w' = w := by
  have Hcell := Lib.hid hcell
  have hzn : (zl G).length = 8 := by simp [zl, hn]
  clear hcell
  go_enter Tryd.func56, Tryd.ntmps56
  go_wp2_with fail
  go_loopw [2, 3, 8] (fun f t i wr => ∃ (k a b : Nat), k ≤ 8 ∧ i = .int .i64 k ∧ f = .int .i64 a ∧ t = .int .i64 b ∧ a ≤ b ∧ b ≤ 8 ∧ bestGo ((zl G).drop k) k (a, b) = bestGo (zl G) 0 (0, 0) ∧ wr = w) (fun _ _ i _ => 8 - (intOf i).toNat)
  case atStart => exact ⟨0, 0, 0, by omega, rfl, rfl, rfl, by omega, by omega, rfl, rfl⟩
  case round =>
    obtain ⟨k, a, b, hk, rfl, rfl, rfl, hab, hb8, hgo, rfl⟩ := hrel
    by_cases hlt : k < 8
    · have hlt' : (k : Int) < 8 := by omega
      rw [bestGo_step _ _ _ (by omega)] at hgo
      have hrl := runL_le ((zl G).drop k)
      rw [List.length_drop] at hrl
      obtain ⟨R, hR⟩ : ∃ R, R = runL ((zl G).drop k) := ⟨_, rfl⟩
      rw [← hR] at hgo hrl
      have HR := Lib.hid hR
      have Hgo := Lib.hid hgo
      clear hgo hR
      go_wp2_with fail
      go_loopw [5] (fun v wx => ∃ m : Nat, m ≤ R ∧ v = .int .i64 ((k : Int) + (m : Int)) ∧ m + runL ((zl G).drop (k + m)) = R ∧ wx = wr) (fun v _ => 8 - (intOf v).toNat)
      case atStart => exact ⟨0, Nat.zero_le _, by simp, by rw [Nat.zero_add, Nat.add_zero]; exact HR.out.symm, rfl⟩
      case round =>
        obtain ⟨m, hm, rfl, hrun, rfl⟩ := hrel
        by_cases hend : k + m < 8
        · have hend' : (k : Int) + (m : Int) < 8 := by omega
          obtain ⟨x, hx⟩ : ∃ x, G[k + m]? = some x := ⟨_, List.getElem?_eq_getElem (by omega)⟩
          have hck := Hcell.out (k + m) x hx
          have hZ : (zl G)[k + m]? = some (isZ x) := by unfold zl; rw [List.getElem?_map, hx]; rfl
          have hcast : ((k : Int) + (m : Int)).toNat = k + m := by omega
          have hge0 : 0 ≤ (k : Int) + (m : Int) := by omega
          cases hz : isZ x with
          | true =>
            rw [hz] at hZ
            rw [runL_step _ _ hZ] at hrun
            have hx1 : x = [48] := by unfold isZ at hz; simpa using hz
            subst hx1
            clear hZ hz hx
            go_wp2_with fail
            refine ⟨⟨m + 1, by omega, by congr 1, by rw [← Nat.add_assoc]; omega, trivial⟩, by simp [intOf]; omega⟩
          | false =>
            rw [hz] at hZ
            rw [runL_stop _ _ hZ] at hrun
            obtain rfl : R = m := by omega
            have hx2 : (x == [48]) = false := hz
            clear hZ hz hx
            by_cases hbt : b - a < R
            · have hb1 : (b : Int) - (a : Int) < (R : Int) := by omega
              have hb2 : (b : Int) - (a : Int) < (k : Int) + (R : Int) - (k : Int) := by omega
              have Hgo2 := Lib.hid Hgo.out
              rw [if_pos hbt] at Hgo2
              clear Hgo
              go_wp2_with fail
              refine ⟨⟨k + 1, k, k + R, by omega, by go_num, rfl, by simp, by omega, by omega, Hgo2.out, trivial⟩, by simp [intOf]; omega⟩
            · have hb1 : ¬ (b : Int) - (a : Int) < (R : Int) := by omega
              have hb2 : ¬ (b : Int) - (a : Int) < (k : Int) + (R : Int) - (k : Int) := by omega
              have Hgo2 := Lib.hid Hgo.out
              rw [if_neg hbt] at Hgo2
              clear Hgo
              go_wp2_with fail
              refine ⟨⟨k + 1, a, b, by omega, by go_num, rfl, rfl, by omega, by omega, Hgo2.out, trivial⟩, by simp [intOf]; omega⟩
        · obtain rfl : R = m := by
            rw [runL_end _ _ (by omega)] at hrun
            omega
          have hend' : ¬ (k : Int) + (R : Int) < 8 := by omega
          by_cases hbt : b - a < R
          · have hb1 : (b : Int) - (a : Int) < (R : Int) := by omega
            have hb2 : (b : Int) - (a : Int) < (k : Int) + (R : Int) - (k : Int) := by omega
            have Hgo2 := Lib.hid Hgo.out
            rw [if_pos hbt] at Hgo2
            clear Hgo
            go_wp2_with fail
            refine ⟨⟨k + 1, k, k + R, by omega, by go_num, rfl, by simp, by omega, by omega, Hgo2.out, trivial⟩, by simp [intOf]; omega⟩
          · have hb1 : ¬ (b : Int) - (a : Int) < (R : Int) := by omega
            have hb2 : ¬ (b : Int) - (a : Int) < (k : Int) + (R : Int) - (k : Int) := by omega
            have Hgo2 := Lib.hid Hgo.out
            rw [if_neg hbt] at Hgo2
            clear Hgo
            go_wp2_with fail
            refine ⟨⟨k + 1, a, b, by omega, by go_num, rfl, rfl, by omega, by omega, Hgo2.out, trivial⟩, by simp [intOf]; omega⟩
    · obtain rfl : k = 8 := by omega
      have hlt' : ¬ ((8 : Nat) : Int) < 8 := by omega
      rw [List.drop_eq_nil_of_le (by omega)] at hgo
      have Hgo := Lib.hid (show (a, b) = bestGo (zl G) 0 (0, 0) from hgo)
      clear hgo
      go_wp2
      refine bodyPost_ret (v := .tuple #[.int .i64 a, .int .i64 b]) (by simp [*, results, Tryd.results56, go_sem] <;> rfl) rfl ⟨by rw [← Hgo.out], rfl⟩

end Go.Proofs.YtgmlpcmplglnoaaDoor
