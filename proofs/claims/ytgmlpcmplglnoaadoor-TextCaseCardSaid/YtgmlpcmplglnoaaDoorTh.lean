/-
  What text.withGap returns. Condition: the eight texts lie where the argument says; the library's tables hold what its text lays.
-/
import Derived.Test.YtgmlpcmplglnoaaDoorTg
namespace Go.Proofs.YtgmlpcmplglnoaaDoor
open Go.RowKit
set_option maxRecDepth 100000

theorem lens_le (M : Nat) : ∀ xs : List (List UInt8), (∀ x ∈ xs, x.length ≤ M) → Lib.lens xs ≤ M * xs.length
  | [], _ => by simp [Lib.lens]
  | x :: xs, h => by
    have h1 := lens_le M xs (fun y hy => h y (by simp [hy]))
    have h2 := h x (by simp)
    unfold Lib.lens at h1 ⊢
    simp only [List.map_cons, List.sum_cons, List.length_cons, Nat.mul_add, Nat.mul_one]
    omega
theorem join_le (M : Nat) (xs : List (List UInt8)) (c : UInt8) (h : ∀ x ∈ xs, x.length ≤ M) : (Lib.join xs [c]).length ≤ (M + 1) * xs.length := by
  cases xs with
  | nil => simp [Lib.join]
  | cons x r =>
    rw [Lib.join_length]
    have := lens_le M (x :: r) h
    rw [Nat.add_mul]
    simp only [List.length_cons, List.length_nil] at this ⊢
    omega
/-- Texts joined: they lie in a row, or there are none. -/
theorem join_any (A : Option Addr) (c : Nat) (xs : List (List UInt8)) (b : UInt8) (w : World) (hA : xs = [] ∨ ∃ g o, A = some ⟨g, o, none⟩ ∧ g < w.heap.size ∧ xs.length ≤ c ∧ ∀ j x, xs[j]? = some x → w.cell? ⟨g, o + j, none⟩ = some (.string ⟨x.toArray⟩))
    (hM : ∀ x ∈ xs, x.length ≤ 100) (hn : xs.length ≤ 100) :
    Calls Tryd.prog 34 #[.slice A xs.length c, .string ⟨#[b]⟩] w fun e w' => e = .returned (.string ⟨(Lib.join xs [b]).toArray⟩) ∧ Below w.heap.size w w' := by
  rcases hA with rfl | ⟨g, o, rfl, hg, hc, hcell⟩
  · exact (Tryd.strings_Join_none A c ⟨#[b]⟩ w).mono fun e w' ⟨h1, h2⟩ => ⟨by rw [h1]; rfl, by rw [h2]; exact Below.refl _ _⟩
  · have hd : (xs.map fun x => (⟨x.toArray⟩ : ByteArray)).map (·.data.toList) = xs := by
      rw [List.map_map]
      exact List.map_id'' (fun x => by simp) xs
    have hj := join_le 100 xs b hM
    have h := Tryd.strings_Join g o c (xs.map fun x => (⟨x.toArray⟩ : ByteArray)) ⟨#[b]⟩ w (fun j x hx => by
      rw [List.getElem?_map] at hx
      cases hy : xs[j]? with
      | none => rw [hy] at hx; cases hx
      | some y =>
        rw [hy] at hx
        simp at hx
        subst hx
        exact hcell j y hy) hg (by simp; omega) (by simpa using hc) (by rw [hd]; show (Lib.join xs [b]).length ≤ _; omega)
    rw [hd, List.length_map] at h
    exact h
theorem ba_append (a b : List UInt8) : (⟨a.toArray⟩ ++ ⟨b.toArray⟩ : ByteArray) = ⟨(a ++ b).toArray⟩ := by
  apply ByteArray.ext
  rw [ByteArray.data_append]
  simp
theorem ba_size (a : List UInt8) : (⟨a.toArray⟩ : ByteArray).size = a.length := by simp [ByteArray.size]
theorem bestGo_bd : ∀ (Z : List Bool) (i : Nat) (p : Nat × Nat), p.1 ≤ p.2 → p.2 ≤ i + Z.length → (bestGo Z i p).1 ≤ (bestGo Z i p).2 ∧ (bestGo Z i p).2 ≤ i + Z.length
  | [], i, p, h1, h2 => ⟨h1, h2⟩
  | b :: Z, i, p, h1, h2 => by
    have hr := runL_le (b :: Z)
    simp only [List.length_cons] at h2 hr ⊢
    have e : bestGo (b :: Z) i p = bestGo Z (i + 1) (if p.2 - p.1 < runL (b :: Z) then (i, i + runL (b :: Z)) else p) := rfl
    rw [e]
    by_cases hc : p.2 - p.1 < runL (b :: Z)
    · rw [if_pos hc]
      have h3 : i ≤ i + runL (b :: Z) := by omega
      have h4 : i + runL (b :: Z) ≤ i + 1 + Z.length := by omega
      have := bestGo_bd Z (i + 1) (i, i + runL (b :: Z)) h3 h4
      omega
    · rw [if_neg hc]
      have := bestGo_bd Z (i + 1) p h1 (by omega)
      omega
def gapL (G : List (List UInt8)) : List UInt8 :=
  if (bestGo (zl G) 0 (0, 0)).2 - (bestGo (zl G) 0 (0, 0)).1 < 2 then Lib.join G [58]
  else Lib.join (G.take (bestGo (zl G) 0 (0, 0)).1) [58] ++ [58, 58] ++ Lib.join (G.drop (bestGo (zl G) 0 (0, 0)).2) [58]

set_option maxHeartbeats 2000000 in
theorem withGap_any (g c : Nat) (hc : 8 ≤ c) (G : List (List UInt8)) (hn : G.length = 8) (hM : ∀ x ∈ G, x.length ≤ 4) (w : World) (hg : g < w.heap.size) (hcell : ∀ j x, G[j]? = some x → w.cell? ⟨g, j, none⟩ = some (.string ⟨x.toArray⟩)) :
    Calls Tryd.prog 32 #[.slice (some ⟨g, 0, none⟩) 8 c] w fun e w' => e = .returned (.string ⟨(gapL G).toArray⟩) ∧ Below w.heap.size w w' := by
  have hbd := bestGo_bd (zl G) 0 (0, 0) (Nat.le_refl _) (Nat.zero_le _)
  have hzl : (zl G).length = 8 := by simp [zl, hn]
  have cl := longestRun_any g c G hn w hcell
  obtain ⟨p, hp⟩ : ∃ p, p = bestGo (zl G) 0 (0, 0) := ⟨_, rfl⟩
  rw [← hp] at cl hbd
  have HL := Lib.hid (show gapL G = if p.2 - p.1 < 2 then Lib.join G [58] else Lib.join (G.take p.1) [58] ++ [58, 58] ++ Lib.join (G.drop p.2) [58] by unfold gapL; rw [← hp])
  clear hp
  obtain ⟨f, t⟩ := p
  simp only at cl hbd HL
  have Hcell := Lib.hid hcell
  have HM := Lib.hid hM
  clear hcell hM
  go_enter Tryd.func32, Tryd.ntmps32
  go_wp2_with fail
  refine cl.mono ?_
  rintro e w1 ⟨rfl, hw1⟩
  rw [hw1]
  clear hw1 w1 cl
  by_cases h2 : t - f < 2
  · have h2' : (t : Int) - (f : Int) < 2 := by omega
    have cj := join_any (some ⟨g, 0, none⟩) c G 58 w (.inr ⟨g, 0, rfl, hg, by omega, fun j x hx => by rw [Nat.zero_add]; exact Hcell.out j x hx⟩) (fun x hx => by have := HM.out x hx; omega) (by omega)
    rw [hn] at cj
    have HL2 := Lib.hid HL.out
    rw [if_pos h2] at HL2
    clear HL
    go_wp2_with fail
    refine cj.mono ?_
    rintro e w1 ⟨rfl, hw1⟩
    go_wp2
    go_ret
    exact ⟨by rw [HL2.out]; rfl, hw1⟩
  · have h2' : ¬ (t : Int) - (f : Int) < 2 := by omega
    have HL2 := Lib.hid HL.out
    rw [if_neg h2] at HL2
    clear HL
    have lf : (G.take f).length = f := by simp; omega
    have lt : (G.drop t).length = 8 - t := by simp; omega
    have c1 : ∀ x : Later w.heap.size w, Calls Tryd.prog 34 #[.slice (some ⟨g, 0, none⟩) f c, .string ⟨#[58]⟩] x.at fun e w' => e = .returned (.string ⟨(Lib.join (G.take f) [58]).toArray⟩) ∧ Below x.at.heap.size x.at w' := fun x => by
      have h := join_any (some ⟨g, 0, none⟩) c (G.take f) 58 x.at (.inr ⟨g, 0, rfl, Nat.lt_of_lt_of_le hg x.below.size, by omega, fun j y hy => by
        rw [Nat.zero_add]
        have hy2 : G[j]? = some y := by
          rw [List.getElem?_take] at hy
          split at hy
          · exact hy
          · cases hy
        exact (x.cell (p := ⟨g, j, none⟩) hg).trans (Hcell.out j y hy2)⟩) (fun y hy => by have := HM.out y (List.mem_of_mem_take hy); omega) (by omega)
      rw [lf] at h
      exact h
    have c2 : ∀ (A : Option Addr) (cc : Nat), (t = 8 ∨ A = some ⟨g, t, none⟩ ∧ 8 - t ≤ cc) → ∀ x : Later w.heap.size w, Calls Tryd.prog 34 #[.slice A (8 - t) cc, .string ⟨#[58]⟩] x.at fun e w' => e = .returned (.string ⟨(Lib.join (G.drop t) [58]).toArray⟩) ∧ Below x.at.heap.size x.at w' := fun A cc hA x => by
      have h := join_any A cc (G.drop t) 58 x.at (by
        rcases hA with h8 | ⟨hA, hcc⟩
        · exact .inl (List.drop_eq_nil_of_le (by omega))
        · refine .inr ⟨g, t, hA, Nat.lt_of_lt_of_le hg x.below.size, by omega, fun j y hy => ?_⟩
          rw [List.getElem?_drop] at hy
          exact (x.cell (p := ⟨g, t + j, none⟩) hg).trans (Hcell.out (t + j) y hy)) (fun y hy => by have := HM.out y (List.mem_of_mem_drop hy); omega) (by omega)
      rw [lt] at h
      exact h
    have l1 := join_le 4 (G.take f) 58 (fun y hy => HM.out y (List.mem_of_mem_take hy))
    have l2 := join_le 4 (G.drop t) 58 (fun y hy => HM.out y (List.mem_of_mem_drop hy))
    rw [lf] at l1
    rw [lt] at l2
    generalize Lib.join (G.take f) [58] = J1 at c1 HL2 l1
    generalize Lib.join (G.drop t) [58] = J2 at c2 HL2 l2
    have l1' : J1.length ≤ 40 := by omega
    have l2' : J2.length ≤ 40 := by omega
    have s1 : ((⟨J1.toArray⟩ : ByteArray).size + (⟨#[58, 58]⟩ : ByteArray).size) ≤ 9223372036854775807 := by simp [ByteArray.size]; omega
    have s2 : ((⟨J1.toArray⟩ ++ ⟨#[58, 58]⟩ : ByteArray).size + (⟨J2.toArray⟩ : ByteArray).size) ≤ 9223372036854775807 := by
      have := ba_append J1 [58, 58]
      rw [show (⟨[58, 58].toArray⟩ : ByteArray) = ⟨#[58, 58]⟩ from rfl] at this
      rw [this, ba_size, ba_size, List.length_append]
      simp
      omega
    have HC1 := fun x => Lib.hid (c1 x)
    have HC2 := fun x => Lib.hid (c2 (if c = t then some ⟨g, 0, none⟩ else some ⟨g, t, none⟩) (c - t) (by
      by_cases h : c = t
      · exact .inl (by omega)
      · exact .inr ⟨if_neg h, by omega⟩) x)
    clear c1 c2 l1 l2
    have hf8 : (f : Int) ≤ 8 := by omega
    have ht8 : (t : Int) ≤ 8 := by omega
    go_wp2_with fail
    refine region_later w.heap.size (by kernel_rfl) (by kernel_rfl) ?_
    repeat (go_big_quiet_step (first
      | (go_at_call 34; with_reducible exact later_of (Nat.le_refl _) (HC1 _).out)
      | (go_at_call 34; with_reducible exact later_of (Nat.le_refl _) (HC2 _).out)))
    refine wpQuiet_nil ?_
    intro x
    have bx := x.below
    clear HC1 HC2
    generalize x.at = w2 at *
    clear x
    have hS : (⟨J1.toArray⟩ ++ ⟨#[58, 58]⟩ ++ ⟨J2.toArray⟩ : ByteArray) = ⟨(gapL G).toArray⟩ := by
      rw [HL2.out, show (⟨#[58, 58]⟩ : ByteArray) = ⟨[58, 58].toArray⟩ from rfl, ba_append, ba_append]
    have HS := Lib.hid hS
    clear hS
    go_wp2
    all_goals go_ret
    all_goals exact ⟨congrArg (fun s => Ending.returned (Value.string s)) HS.out, bx⟩

end Go.Proofs.YtgmlpcmplglnoaaDoor
