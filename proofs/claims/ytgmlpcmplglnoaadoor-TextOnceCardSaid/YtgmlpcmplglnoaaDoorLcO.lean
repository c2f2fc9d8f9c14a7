/-
  TextOnce returns true, whatever text. Condition: the library's tables hold what its text lays.
-/
import Derived.Test.YtgmlpcmplglnoaaDoorTw
import Derived.Test.YtgmlpcmplglnoaaDoorLate
namespace Go.Proofs.YtgmlpcmplglnoaaDoor
open Go.RowKit
set_option maxRecDepth 100000

theorem lens_ge : ∀ xs : List (List UInt8), (∀ x ∈ xs, x ≠ []) → xs.length ≤ Lib.lens xs
  | [], _ => Nat.zero_le _
  | x :: xs, h => by
    have h1 := lens_ge xs (fun y hy => h y (by simp [hy]))
    have h2 : x.length ≠ 0 := fun e => h x (by simp) (List.eq_nil_of_length_eq_zero e)
    unfold Lib.lens at h1 ⊢
    simp only [List.map_cons, List.sum_cons, List.length_cons]
    omega
theorem join_bd (M : Nat) (xs : List (List UInt8)) (c : UInt8) (h0 : xs ≠ []) (h : ∀ x ∈ xs, x ≠ [] ∧ x.length ≤ M) : xs.length - 1 + xs.length ≤ (Lib.join xs [c]).length ∧ (Lib.join xs [c]).length ≤ xs.length - 1 + M * xs.length := by
  have h1 := lens_ge xs (fun x hx => (h x hx).1)
  have h2 := lens_le M xs (fun x hx => (h x hx).2)
  cases xs with
  | nil => exact absurd rfl h0
  | cons x r =>
    rw [Lib.join_length]
    simp only [List.length_cons, List.length_nil] at h1 h2 ⊢
    omega
theorem print_len (a : Ad) : 2 ≤ (printA a).length ∧ (printA a).length ≤ 39 := by
  unfold printA
  split
  · rw [grps_hex]
    have hl : ((grps a).map hexL).length = 8 := by rw [List.length_map, grps_len]
    have hp : ∀ x ∈ (grps a).map hexL, x ≠ [] ∧ x.length ≤ 4 := fun x hx => by
      obtain ⟨u, _, rfl⟩ := List.mem_map.1 hx
      exact ⟨hexL_ne u, hexL_le u⟩
    generalize (grps a).map hexL = G at hl hp
    unfold gapL
    have h1 := join_bd 4 G 58 (fun e => by rw [e] at hl; cases hl) hp
    have h2 := join_le 4 (G.take (bestGo (zl G) 0 (0, 0)).1) 58 (fun y hy => (hp y (List.mem_of_mem_take hy)).2)
    have h3 := join_le 4 (G.drop (bestGo (zl G) 0 (0, 0)).2) 58 (fun y hy => (hp y (List.mem_of_mem_drop hy)).2)
    have hb := bestGo_bd (zl G) 0 (0, 0) (Nat.le_refl _) (Nat.zero_le _)
    have hz : (zl G).length = 8 := by simp [zl, hl]
    rw [List.length_take, hl] at h2
    rw [List.length_drop, hl] at h3
    rw [hl] at h1
    split
    · omega
    · simp only [List.length_append, List.length_cons, List.length_nil]
      omega
  · have h1 := join_bd 3 (numTs (byteAt a) 4) 46 (by simp [numTs, List.range_succ]) (fun x hx => ⟨fun e => by
      unfold numTs at hx
      obtain ⟨j, _, rfl⟩ := List.mem_map.1 hx
      unfold Lib.itoa at e
      rw [if_neg (by have := byteAt_bd a j; omega)] at e
      exact dec_ne _ e, numTs_le _ (byteAt_bd a) _ x hx⟩)
    rw [numTs_len] at h1
    omega

set_option maxHeartbeats 1000000 in
theorem textOnce_law (s : ByteArray) (w : World) (he : Env w) :
    Calls Tryd.prog 5 #[.string s] w fun e w' => e = .returned (.bool true) ∧ Below w.heap.size w w' := by
  by_cases hl : 200 < s.size
  · have hl' : 200 < (s.size : Int) := by omega
    go_enter Tryd.func5, Tryd.ntmps5
    go_wp2_with fail
    refine (awake3_any _ (he.go (by go_grown))).mono ?_
    rintro e w1 ⟨rfl, hw1⟩
    have zw1 := hw1.size
    have bw1 := below_of (w := w) (by go_grown) hw1
    try simp at zw1
    clear hw1
    go_wp2
    go_ret
    exact ⟨rfl, bw1⟩
  have hl' : ¬ 200 < (s.size : Int) := by omega
  have cp := fun w he => parseAddr_any s w he (by omega)
  cases hA : parseA s.data.toList with
  | none =>
    have cq : ∀ w, Env w → Calls Tryd.prog 10 #[.string s] w fun e w' => e = .returned (.tuple #[.agg #[.int .u64 0, .int .u64 0, .bool false], .int .i64 5]) ∧ Below w.heap.size w w' := fun w he => by
      have h := cp w he
      rw [hA] at h
      exact h
    clear cp hA
    have CQ := fun w he => Lib.hid (cq w he)
    clear cq
    go_enter Tryd.func5, Tryd.ntmps5
    go_wp2_with fail
    refine (awake3_any _ (he.go (by go_grown))).mono ?_
    rintro e w1 ⟨rfl, hw1⟩
    have zw1 := hw1.size
    have bw1 := below_of (w := w) (by go_grown) hw1
    try simp at zw1
    clear hw1
    go_wp2_with fail
    refine ((CQ _ (he.go (by go_grown))).out).mono ?_
    rintro e w2 ⟨rfl, hw2⟩
    have zw2 := hw2.size
    have bw2 := below_of (w := w) (by go_grown) hw2
    try simp at zw2
    clear hw2
    go_wp2
    go_ret
    refine ⟨rfl, ?_⟩
    go_grown
  | some a =>
    have hn := norm_parse hA
    have cq : ∀ w, Env w → Calls Tryd.prog 10 #[.string s] w fun e w' => e = .returned (.tuple #[.agg #[.int .u64 (u a.hi), .int .u64 (u a.lo), .bool a.v6], .int .i64 0]) ∧ Below w.heap.size w w' := fun w he => by
      have h := cp w he
      rw [hA] at h
      exact h
    have cr : ∀ w, Env w → Calls Tryd.prog 10 #[.string ⟨(printA a).toArray⟩] w fun e w' => e = .returned (.tuple #[.agg #[.int .u64 (u a.hi), .int .u64 (u a.lo), .bool a.v6], .int .i64 0]) ∧ Below w.heap.size w w' := fun w he => by
      have h := parsePrint_any a w he
      rw [hn] at h
      exact h
    have hs : saneB a = true := (saneB_iff a).2 hn
    obtain ⟨p0, p1⟩ := print_len a
    have q0 : (2 : Int) ≤ ((printA a).length : Int) := by omega
    have q1 : ((printA a).length : Int) ≤ 39 := by omega
    have cs := fun w => sane_any a w
    rw [hs] at cs
    have CQ := fun w he => Lib.hid (cq w he)
    have CR := fun w he => Lib.hid (cr w he)
    have CS := fun w => Lib.hid (cs w)
    clear cp cq cr cs hA hn hs
    go_enter Tryd.func5, Tryd.ntmps5
    go_wp2_with fail
    refine (awake3_any _ (he.go (by go_grown))).mono ?_
    rintro e w1 ⟨rfl, hw1⟩
    have zw1 := hw1.size
    have bw1 := below_of (w := w) (by go_grown) hw1
    try simp at zw1
    clear hw1
    go_wp2_with fail
    refine ((CQ _ (he.go (by go_grown))).out).mono ?_
    rintro e w2 ⟨rfl, hw2⟩
    have zw2 := hw2.size
    have bw2 := below_of (w := w) (by go_grown) hw2
    try simp at zw2
    clear hw2
    go_wp2_with fail
    refine (printAddr_any a _ (he.go (by go_grown))).mono ?_
    rintro e w3 ⟨rfl, hw3⟩
    have zw3 := hw3.size
    have bw3 := below_of (w := w) (by go_grown) hw3
    try simp at zw3
    obtain ⟨x6a, x6b, x6c, x6d, x6e, x6f, x6z⟩ := cells3 (b := w2.heap.size) hw3 (by go_size) (by go_simp <;> rfl) (by go_simp <;> rfl) (by go_simp <;> rfl) (by go_simp <;> rfl) (by go_simp <;> rfl) (by go_simp <;> rfl)
    clear hw3
    go_wp2_with fail
    refine ((CR _ (he.go (by go_grown))).out).mono ?_
    rintro e w4 ⟨rfl, hw4⟩
    have zw4 := hw4.size
    have bw4 := below_of (w := w) (by go_grown) hw4
    try simp at zw4
    have hw3b := below_of (w := w3) (by go_grown) hw4
    obtain ⟨x7a, x7b, x7c, x7d, x7e, x7f, x7z⟩ := cells3 hw3b x6z x6a x6b x6c x6d x6e x6f
    clear x6a x6b x6c x6d x6e x6f x6z hw4 hw3b
    go_wp2_with fail
    refine (printAddr_any a _ (he.go (by go_grown))).mono ?_
    rintro e w5 ⟨rfl, hw5⟩
    have zw5 := hw5.size
    have bw5 := below_of (w := w) (by go_grown) hw5
    try simp at zw5
    have hw4b := below_of (w := w4) (by go_grown) hw5
    obtain ⟨x8a, x8b, x8c, x8d, x8e, x8f, x8z⟩ := cells3 hw4b x7z x7a x7b x7c x7d x7e x7f
    obtain ⟨y8a, y8b, y8c, y8d, y8e, y8f, y8z⟩ := cells3 (b := w4.heap.size) hw5 (by go_size) (by go_simp <;> rfl) (by go_simp <;> rfl) (by go_simp <;> rfl) (by go_simp <;> rfl) (by go_simp <;> rfl) (by go_simp <;> rfl)
    clear x7a x7b x7c x7d x7e x7f x7z hw5 hw4b
    go_wp2_with fail
    refine ((CS _).out).mono ?_
    rintro e w6 ⟨rfl, hw6⟩
    have zw6 := hw6.size
    have bw6 := below_of (w := w) (by go_grown) hw6
    try simp at zw6
    have hw5b := below_of (w := w5) (by go_grown) hw6
    obtain ⟨x9a, x9b, x9c, x9d, x9e, x9f, x9z⟩ := cells3 hw5b x8z x8a x8b x8c x8d x8e x8f
    obtain ⟨y9a, y9b, y9c, y9d, y9e, y9f, y9z⟩ := cells3 hw5b y8z y8a y8b y8c y8d y8e y8f
    clear x8a x8b x8c x8d x8e x8f x8z y8a y8b y8c y8d y8e y8f y8z hw6 hw5b
    go_wp2
    go_ret
    exact ⟨rfl, bw6⟩

end Go.Proofs.YtgmlpcmplglnoaaDoor
