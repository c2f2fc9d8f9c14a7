/-
  A ring of links in memory, and the numbers that it holds in their order: plain facts. No condition.
-/
import Derived.Test.YtkkjdpmkiedbiaaNm
namespace Go.Proofs.Ytkkjdpmkiedbiaa
open Go.RowKit
set_option maxRecDepth 100000

/-- The links of a place. -/
structure Lnk where
  a : Nat
  b : Nat
deriving DecidableEq
def lnE (x : Lnk) : List Value := [.int .i64 (x.a : Int), .int .i64 (x.b : Int)]
def KLn : Kd Lnk := ⟨lnE, 2, by decide, fun _ => rfl, fun x u h => by simp [lnE] at h; rcases h with rfl | rfl <;> rfl⟩
def up (R : Nat → Lnk) (i : Nat) (x : Lnk) : Nat → Lnk := fun j => if j = i then x else R j
def upA (R : Nat → Lnk) (i x : Nat) : Nat → Lnk := up R i ⟨x, (R i).b⟩
def upB (R : Nat → Lnk) (i x : Nat) : Nat → Lnk := up R i ⟨(R i).a, x⟩
def rowR (n : Nat) (R : Nat → Lnk) : List Lnk := (List.range n).map R
theorem rowR_len (n : Nat) (R : Nat → Lnk) : (rowR n R).length = n := by simp [rowR]
theorem rowR_at (n : Nat) (R : Nat → Lnk) (i : Nat) (h : i < (rowR n R).length) : (rowR n R)[i] = R i := by simp [rowR]
theorem rowR_set (n : Nat) (R : Nat → Lnk) (i : Nat) (x : Lnk) : (rowR n R).set i x = rowR n (up R i x) := by
  apply List.ext_getElem
  · simp [rowR]
  · intro j h1 h2
    rw [List.getElem_set, rowR_at, rowR_at]
    unfold up
    by_cases e : j = i
    · subst e; simp
    · have e2 : ¬ i = j := fun h => e h.symm
      simp [e, e2]
/-- Each is linked to the next one. -/
def Ch (R : Nat → Lnk) : List Nat → Prop
  | [] => True
  | [_] => True
  | x :: y :: l => ((R x).b = y ∧ (R y).a = x) ∧ Ch R (y :: l)
theorem ch_append (R : Nat → Lnk) (x : Nat) (B : List Nat) : (A : List Nat) → (Ch R (A ++ x :: B) ↔ Ch R (A ++ [x]) ∧ Ch R (x :: B))
  | [] => by simp [Ch]
  | [y] => by simp [Ch]
  | y :: z :: A => by
    have ih := ch_append R x B (z :: A)
    simp only [List.cons_append] at ih ⊢
    simp only [Ch]
    rw [ih]
    simp only [and_assoc]
theorem ch_congr {R R' : Nat → Lnk} : (l : List Nat) → (∀ x, x ∈ l.dropLast → (R' x).b = (R x).b) → (∀ y, y ∈ l.tail → (R' y).a = (R y).a) → Ch R l → Ch R' l
  | [], _, _, _ => trivial
  | [_], _, _, _ => trivial
  | x :: y :: l, h1, h2, h => by
    refine ⟨⟨(h1 x (by simp [List.dropLast])).trans h.1.1, (h2 y (by simp)).trans h.1.2⟩, ?_⟩
    refine ch_congr (y :: l) (fun z hz => h1 z ?_) (fun z hz => h2 z ?_) h.2
    · simp only [List.dropLast]
      exact List.mem_cons_of_mem _ hz
    · exact List.mem_cons_of_mem _ hz
theorem ch_at {R : Nat → Lnk} : (l : List Nat) → Ch R l → (k : Nat) → (h : k + 1 < l.length) → (R l[k]).b = l[k + 1] ∧ (R l[k + 1]).a = l[k]
  | [], _, _, h => by simp at h
  | [_], _, _, h => by simp at h
  | x :: y :: l, hc, 0, _ => hc.1
  | x :: y :: l, hc, k + 1, h => ch_at (y :: l) hc.2 k (by simpa using h)

/-- Numbers in order, and how many places the ring has. -/
structure Rc where
  n : Nat
  L : List Nat
/-- The ring holds the numbers. -/
structure Rc.Ok (s : Rc) (R : Nat → Lnk) : Prop where
  n : s.n ≤ 1025
  lt : ∀ i, i ∈ s.L → i + 1 < s.n
  once : s.L.Nodup
  ch : 0 < s.n → Ch R ((s.n - 1) :: (s.L ++ [s.n - 1]))
  out : ∀ i, i + 1 < s.n → i ∉ s.L → R i = ⟨i, i⟩
  bd : ∀ i, i < s.n → (R i).a < s.n ∧ (R i).b < s.n
def Rc.may (s : Rc) (i : Int) : Bool := decide (0 ≤ i) && decide (i < (s.n : Int) - 1)
def Rc.has (s : Rc) (i : Int) : Bool := decide (0 ≤ i) && decide (i.toNat ∈ s.L)
def wout (L : List Nat) (i : Int) : List Nat := L.filter fun j : Nat => !((j : Int) == i)
def Rc.drop (s : Rc) (i : Int) : Rc := { s with L := wout s.L i }
def Rc.touch (s : Rc) (i : Int) : Rc := if s.may i = true then { s with L := i.toNat :: wout s.L i } else s
def Rc.last (s : Rc) : Int := ((s.L.getLastD 0 : Nat) : Int)
def Rc.is (s : Rc) : Bool := !s.L.isEmpty
def Rc.new (most : Int) : Rc := ⟨(min (max most 0) 1024).toNat + 1, []⟩
def selfR : Nat → Lnk := fun i => ⟨i, i⟩

theorem wout_self {L : List Nat} {i : Int} (h : ¬ (0 ≤ i ∧ i.toNat ∈ L)) : wout L i = L := by
  unfold wout
  rw [List.filter_eq_self]
  intro j hj
  simp only [Bool.not_eq_true', beq_eq_false_iff_ne, ne_eq]
  rintro rfl
  exact h ⟨by omega, by rwa [Int.toNat_natCast]⟩
theorem wout_mem {L : List Nat} {i : Int} {j : Nat} : j ∈ wout L i ↔ j ∈ L ∧ (j : Int) ≠ i := by
  unfold wout
  simp
theorem wout_nodup {L : List Nat} (h : L.Nodup) (i : Int) : (wout L i).Nodup := List.Pairwise.filter _ h
theorem wout_split {A B : List Nat} {i : Nat} (h : (A ++ i :: B).Nodup) : wout (A ++ i :: B) i = A ++ B := by
  have h0 := List.nodup_append.1 h
  obtain ⟨-, h1, h2⟩ := h0
  have h3 := (List.nodup_cons.1 h1).1
  have eA : wout A i = A := wout_self (fun e => h2 i (by simpa using e.2) i (by simp) rfl)
  have eB : wout B i = B := wout_self (fun e => h3 (by simpa using e.2))
  unfold wout at eA eB ⊢
  rw [List.filter_append, eA, List.filter_cons, eB]
  simp
theorem has_bd10 {s : Rc} {i : Int} (h : s.has i = true) : 0 ≤ i ∧ i.toNat ∈ s.L := by
  unfold Rc.has at h
  simpa using h
theorem may_bd {s : Rc} {i : Int} (h : s.may i = true) : 0 ≤ i ∧ i < (s.n : Int) - 1 := by
  unfold Rc.may at h
  simpa using h
theorem has_nat10 (s : Rc) (i : Nat) : s.has i = decide (i ∈ s.L) := by
  unfold Rc.has
  rw [Int.toNat_natCast]
  simp
theorem Rc.Ok.has_may {s : Rc} {R : Nat → Lnk} (h : s.Ok R) {i : Int} (hi : s.has i = true) : s.may i = true := by
  obtain ⟨h1, h2⟩ := has_bd10 hi
  have := h.lt _ h2
  unfold Rc.may
  simp
  omega
theorem drop_no {s : Rc} {i : Int} (h : s.has i = false) : s.drop i = s := by
  unfold Rc.drop
  rw [wout_self]
  intro e
  unfold Rc.has at h
  simp [e.1, e.2] at h
theorem drop_has {s : Rc} {i : Int} : (s.drop i).has i = false := by
  unfold Rc.has Rc.drop
  cases h : decide (0 ≤ i)
  · rfl
  · have h0 : 0 ≤ i := of_decide_eq_true h
    simp only [Bool.true_and, decide_eq_false_iff_not]
    intro e
    have := (wout_mem.1 e).2
    omega
theorem Rc.new_ok (m : Int) : (Rc.new m).Ok selfR where
  n := by simp only [Rc.new]; omega
  lt := by simp [Rc.new]
  once := by simp [Rc.new]
  ch := fun _ => ⟨⟨rfl, rfl⟩, trivial⟩
  out := fun _ _ _ => rfl
  bd := fun i h => ⟨h, h⟩
theorem zero_ok (R : Nat → Lnk) : (⟨0, []⟩ : Rc).Ok R where
  n := by simp
  lt := by simp
  once := by simp
  ch := fun h => by simp at h
  out := fun i h => by simp at h
  bd := fun i h => by simp at h
theorem Rc.Ok.len {s : Rc} {R : Nat → Lnk} (h : s.Ok R) : s.L.length ≤ 1024 ∧ s.L.length ≤ s.n := by
  have hn := h.n
  have hsub : s.L ⊆ List.range (s.n - 1) := fun i hi => by
    have := h.lt i hi
    simp
    omega
  have : s.L.length ≤ (List.range (s.n - 1)).length := List.Nodup.length_le_of_subset h.once hsub
  simp at this
  omega
/-- Where one that is there lies in the ring. -/
theorem Rc.Ok.split {s : Rc} {R : Nat → Lnk} (h : s.Ok R) {i : Nat} (hi : i ∈ s.L) : ∃ A B A' B' p q, s.L = A ++ i :: B ∧ (s.n - 1) :: A = A' ++ [p] ∧ B ++ [s.n - 1] = q :: B' ∧ (R i).a = p ∧ (R i).b = q ∧ Ch R (A' ++ [p]) ∧ Ch R (q :: B') ∧ p ≠ i ∧ q ≠ i ∧ p < s.n ∧ q < s.n := by
  obtain ⟨A, B, e⟩ := List.append_of_mem hi
  have hlt := h.lt i hi
  have hc := h.ch (by omega)
  have hnd := h.once
  rw [e] at hnd
  obtain ⟨d1, d2, d3⟩ := List.nodup_append.1 hnd
  have d4 := (List.nodup_cons.1 d2).1
  obtain ⟨A', p, ea⟩ : ∃ A' p, (s.n - 1) :: A = A' ++ [p] := ⟨_, _, (List.dropLast_concat_getLast (List.cons_ne_nil _ _)).symm⟩
  obtain ⟨q, B', eb⟩ : ∃ q B', B ++ [s.n - 1] = q :: B' := by
    cases B with
    | nil => exact ⟨_, _, rfl⟩
    | cons q B => exact ⟨_, _, rfl⟩
  have hp : p ∈ (s.n - 1) :: A := by rw [ea]; simp
  have hq : q ∈ B ++ [s.n - 1] := by rw [eb]; simp
  have e2 : (s.n - 1) :: (s.L ++ [s.n - 1]) = A' ++ p :: i :: q :: B' := by
    rw [e, List.append_assoc, List.cons_append, eb, ← List.cons_append, ea]
    simp
  rw [e2] at hc
  obtain ⟨c1, c2⟩ := (ch_append R p _ A').1 hc
  refine ⟨A, B, A', B', p, q, e, ea, eb, c2.1.2, c2.2.1.1, c1, c2.2.2, ?_, ?_, ?_, ?_⟩
  · rintro rfl
    rcases List.mem_cons.1 hp with h | h
    · omega
    · exact d3 p h p (by simp) rfl
  · rintro rfl
    rcases List.mem_append.1 hq with h | h
    · exact d4 h
    · simp at h; omega
  · rcases List.mem_cons.1 hp with h' | h'
    · omega
    · have := h.lt p (by rw [e]; simp [h'])
      omega
  · rcases List.mem_append.1 hq with h' | h'
    · have := h.lt q (by rw [e]; simp [h'])
      omega
    · simp at h'; omega
/-- Is it linked to itself? -/
theorem Rc.Ok.self {s : Rc} {R : Nat → Lnk} (h : s.Ok R) {i : Nat} (hi : i + 1 < s.n) : (!(decide ((R i).a = i) && decide ((R i).b = i))) = s.has i := by
  rw [has_nat10]
  by_cases hm : i ∈ s.L
  · obtain ⟨A, B, A', B', p, q, -, -, -, h1, h2, -, -, h3, h4, -⟩ := h.split hm
    rw [h1]
    simp [hm, h3]
  · rw [h.out i hi hm]
    simp [hm]
theorem up_same {R : Nat → Lnk} {i : Nat} {x : Lnk} : up R i x i = x := by simp [up]
theorem up_other {R : Nat → Lnk} {i j : Nat} {x : Lnk} (h : j ≠ i) : up R i x j = R j := by simp [up, h]
theorem upB_b {R : Nat → Lnk} {i j x : Nat} : (upB R i x j).b = if j = i then x else (R j).b := by
  unfold upB up
  split <;> rfl
theorem upB_a {R : Nat → Lnk} {i j x : Nat} : (upB R i x j).a = (R j).a := by
  unfold upB up
  split
  · rename_i h; rw [h]
  · rfl
theorem upA_a {R : Nat → Lnk} {i j x : Nat} : (upA R i x j).a = if j = i then x else (R j).a := by
  unfold upA up
  split <;> rfl
theorem upA_b {R : Nat → Lnk} {i j x : Nat} : (upA R i x j).b = (R j).b := by
  unfold upA up
  split
  · rename_i h; rw [h]
  · rfl
/-- One that is there goes. -/
theorem Rc.Ok.drop {s : Rc} {R : Nat → Lnk} (h : s.Ok R) {i : Nat} (hi : i ∈ s.L) : (s.drop i).Ok (up (upA (upB R (R i).a (R i).b) (R i).b (R i).a) i ⟨i, i⟩) := by
  obtain ⟨A, B, A', B', p, q, e, ea, eb, h1, h2, c1, c2, h3, h4, h5, h6⟩ := h.split hi
  have hnd := h.once
  rw [e] at hnd
  obtain ⟨d1, d2, d3⟩ := List.nodup_append.1 hnd
  have d4 := List.nodup_cons.1 d2
  have hlt := h.lt i hi
  rw [h1, h2]
  have hL : (s.drop i).L = A ++ B := by unfold Rc.drop; rw [e]; exact wout_split hnd
  have hmA : s.n - 1 ∉ A := fun hm => by have := h.lt _ (by rw [e]; exact List.mem_append_left _ hm); omega
  have hmB : s.n - 1 ∉ B := fun hm => by have := h.lt _ (by rw [e]; exact List.mem_append_right _ (List.mem_cons_of_mem _ hm)); omega
  have ndA : (A' ++ [p]).Nodup := by rw [← ea]; exact List.nodup_cons.2 ⟨hmA, d1⟩
  have ndB : (q :: B').Nodup := by
    rw [← eb]
    refine List.nodup_append.2 ⟨d4.2, by simp, ?_⟩
    intro x hx y hy
    simp at hy
    subst hy
    rintro rfl
    exact hmB hx
  have iA : i ∉ A' ++ [p] := by
    rw [← ea]
    intro hm
    rcases List.mem_cons.1 hm with h' | h'
    · omega
    · exact d3 i h' i (by simp) rfl
  have iB : i ∉ q :: B' := by
    rw [← eb]
    intro hm
    rcases List.mem_append.1 hm with h' | h'
    · exact d4.1 h'
    · simp at h'; omega
  have eA : A = (A' ++ [p]).tail := by rw [← ea]; rfl
  have eB : B = (q :: B').dropLast := by rw [← eb]; simp
  refine ⟨h.n, ?_, ?_, ?_, ?_, ?_⟩
  · intro j hj
    rw [hL] at hj
    refine h.lt j ?_
    rw [e]
    rcases List.mem_append.1 hj with h' | h'
    · exact List.mem_append_left _ h'
    · exact List.mem_append_right _ (List.mem_cons_of_mem _ h')
  · rw [hL]
    refine List.nodup_append.2 ⟨d1, d4.2, fun x hx y hy => d3 x hx y (List.mem_cons_of_mem _ hy)⟩
  · intro _
    show Ch _ ((s.n - 1) :: ((s.drop i).L ++ [s.n - 1]))
    rw [hL]
    have e3 : (s.n - 1) :: (A ++ B ++ [s.n - 1]) = A' ++ p :: q :: B' := by
      rw [List.append_assoc, eb, ← List.cons_append, ea]
      simp
    rw [e3]
    refine (ch_append _ p _ A').2 ⟨?_, ⟨?_, ?_⟩, ?_⟩
    · refine ch_congr _ ?_ ?_ c1
      · intro x hx
        have hxA : x ∈ A' := by simpa using hx
        have x1 : x ≠ i := fun e => iA (e ▸ List.mem_append_left _ hxA)
        have x2 : x ≠ p := fun e => by
          subst e
          exact (List.nodup_append.1 ndA).2.2 x hxA x (by simp) rfl
        rw [up_other x1, upA_b, upB_b, if_neg x2]
      · intro y hy
        have y1 : y ≠ i := fun e => iA (e ▸ List.mem_of_mem_tail hy)
        have y2 : y ≠ q := by
          rintro rfl
          rw [← eA] at hy
          have : y ∈ B ++ [s.n - 1] := by rw [eb]; simp
          rcases List.mem_append.1 this with h' | h'
          · exact d3 y hy y (List.mem_cons_of_mem _ h') rfl
          · simp at h'; subst h'; exact hmA hy
        rw [up_other y1, upA_a, if_neg y2, upB_a]
    · rw [up_other h3, upA_b, upB_b, if_pos rfl]
    · rw [up_other h4, upA_a, if_pos rfl]
    · refine ch_congr _ ?_ ?_ c2
      · intro x hx
        have x1 : x ≠ i := fun e => iB (e ▸ List.dropLast_subset _ hx)
        have x2 : x ≠ p := by
          rintro rfl
          rw [← eB] at hx
          have : x ∈ (s.n - 1) :: A := by rw [ea]; simp
          rcases List.mem_cons.1 this with h' | h'
          · subst h'; exact hmB hx
          · exact d3 x h' x (List.mem_cons_of_mem _ hx) rfl
        rw [up_other x1, upA_b, upB_b, if_neg x2]
      · intro y hy
        have hyB : y ∈ B' := by simpa using hy
        have y1 : y ≠ i := fun e => iB (e ▸ List.mem_cons_of_mem _ hyB)
        have y2 : y ≠ q := fun e => by
          subst e
          exact (List.nodup_cons.1 ndB).1 hyB
        rw [up_other y1, upA_a, if_neg y2, upB_a]
  · intro j hj hm
    by_cases hji : j = i
    · subst hji
      exact up_same
    · have hjL : j ∉ s.L := by
        intro hm'
        apply hm
        rw [hL]
        rw [e] at hm'
        rcases List.mem_append.1 hm' with h' | h'
        · exact List.mem_append_left _ h'
        · rcases List.mem_cons.1 h' with h'' | h''
          · exact absurd h'' hji
          · exact List.mem_append_right _ h''
      have hjp : j ≠ p := by
        rintro rfl
        have : j ∈ (s.n - 1) :: A := by rw [ea]; simp
        rcases List.mem_cons.1 this with h' | h'
        · have hj' : j + 1 < s.n := hj
          omega
        · exact hjL (by rw [e]; exact List.mem_append_left _ h')
      have hjq : j ≠ q := by
        rintro rfl
        have : j ∈ B ++ [s.n - 1] := by rw [eb]; simp
        rcases List.mem_append.1 this with h' | h'
        · exact hjL (by rw [e]; exact List.mem_append_right _ (List.mem_cons_of_mem _ h'))
        · have hj' : j + 1 < s.n := hj
          simp at h'
          omega
      have ho := h.out j hj hjL
      rw [up_other hji]
      unfold upA
      rw [up_other hjq]
      unfold upB
      rw [up_other hjp, ho]
  · intro j hj
    have hj' : j < s.n := hj
    have hb := h.bd j hj'
    have hii : i < s.n := by omega
    unfold up
    split
    · rename_i hji
      exact ⟨hii, hii⟩
    · rw [upA_a, upA_b, upB_a, upB_b]
      constructor
      · split
        · exact h5
        · exact hb.1
      · split
        · exact h6
        · exact hb.2
/-- One that is not there comes first. -/
theorem Rc.Ok.lead {s : Rc} {R : Nat → Lnk} (h : s.Ok R) {i : Nat} (hi : i + 1 < s.n) (hn : i ∉ s.L) : (⟨s.n, i :: s.L⟩ : Rc).Ok (upB (upA (up R i ⟨s.n - 1, (R (s.n - 1)).b⟩) (R (s.n - 1)).b i) (s.n - 1) i) := by
  have hc := h.ch (by omega)
  obtain ⟨q, B', eb⟩ : ∃ q B', s.L ++ [s.n - 1] = q :: B' := by
    cases s.L with
    | nil => exact ⟨_, _, rfl⟩
    | cons q B => exact ⟨_, _, rfl⟩
  rw [eb] at hc
  obtain ⟨⟨h1, h2⟩, c2⟩ := hc
  rw [h1]
  have hq : q ∈ s.L ++ [s.n - 1] := by rw [eb]; simp
  have hmL : s.n - 1 ∉ s.L := fun hm => by have := h.lt _ hm; omega
  have ndB : (q :: B').Nodup := by
    rw [← eb]
    refine List.nodup_append.2 ⟨h.once, by simp, ?_⟩
    intro x hx y hy
    simp at hy
    subst hy
    rintro rfl
    exact hmL hx
  have iB : i ∉ q :: B' := by
    rw [← eb]
    intro hm
    rcases List.mem_append.1 hm with h' | h'
    · exact hn h'
    · simp at h'; omega
  have iq : q ≠ i := fun e => iB (by simp [e])
  have im : i ≠ s.n - 1 := by omega
  have eL : s.L = (q :: B').dropLast := by rw [← eb]; simp
  have h6 : q < s.n := by
    rcases List.mem_append.1 hq with h' | h'
    · have := h.lt q h'
      omega
    · simp at h'; omega
  refine ⟨h.n, ?_, List.nodup_cons.2 ⟨hn, h.once⟩, ?_, ?_, ?_⟩
  · intro j hj
    rcases List.mem_cons.1 hj with h' | h'
    · subst h'; exact hi
    · exact h.lt j h'
  · intro _
    show Ch _ ((s.n - 1) :: (i :: s.L ++ [s.n - 1]))
    rw [List.cons_append, eb]
    refine ⟨⟨?_, ?_⟩, ⟨?_, ?_⟩, ?_⟩
    · rw [upB_b, if_pos rfl]
    · rw [upB_a, upA_a, if_neg (fun e => iq e.symm), up_same]
    · rw [upB_b, if_neg im, upA_b, up_same]
    · rw [upB_a, upA_a, if_pos rfl]
    · refine ch_congr _ ?_ ?_ c2
      · intro x hx
        have x1 : x ≠ i := fun e => iB (e ▸ List.dropLast_subset _ hx)
        have x2 : x ≠ s.n - 1 := by
          rintro rfl
          rw [← eL] at hx
          exact hmL hx
        rw [upB_b, if_neg x2, upA_b, up_other x1]
      · intro y hy
        have hyB : y ∈ B' := by simpa using hy
        have y1 : y ≠ i := fun e => iB (e ▸ List.mem_cons_of_mem _ hyB)
        have y2 : y ≠ q := fun e => by
          subst e
          exact (List.nodup_cons.1 ndB).1 hyB
        rw [upB_a, upA_a, if_neg y2, up_other y1]
  · intro j hj hm
    have hji : j ≠ i := fun e => hm (by simp [e])
    have hjL : j ∉ s.L := fun e => hm (List.mem_cons_of_mem _ e)
    have hjm : j ≠ s.n - 1 := by
      have hj' : j + 1 < s.n := hj
      omega
    have hjq : j ≠ q := by
      rintro rfl
      rcases List.mem_append.1 hq with h' | h'
      · exact hjL h'
      · simp at h'; exact hjm h'
    unfold upB
    rw [up_other hjm]
    unfold upA
    rw [up_other hjq, up_other hji]
    exact h.out j hj hjL
  · intro j hj
    have hj' : j < s.n := hj
    have hb := h.bd j hj'
    have hii : i < s.n := by omega
    rw [upB_a, upB_b, upA_a, upA_b]
    by_cases hji : j = i
    · subst hji
      rw [up_same]
      constructor
      · split
        · exact hii
        · show s.n - 1 < s.n
          omega
      · split
        · exact hii
        · exact h6
    · rw [up_other hji]
      constructor
      · split
        · exact hii
        · exact hb.1
      · split
        · exact hii
        · exact hb.2
theorem touch_yes {s : Rc} {i : Nat} (h : s.may i = true) : s.touch i = ⟨s.n, i :: (s.drop i).L⟩ := by
  unfold Rc.touch
  rw [if_pos h, Int.toNat_natCast]
  rfl
theorem touch_no {s : Rc} {i : Int} (h : s.may i = false) : s.touch i = s := by
  unfold Rc.touch
  rw [if_neg (by simp [h])]
/-- What is behind the k-th one. -/
theorem Rc.Ok.next {s : Rc} {R : Nat → Lnk} (h : s.Ok R) (hn : 0 < s.n) (k : Nat) (hk : k ≤ s.L.length) : ∃ (hx : k < ((s.n - 1) :: s.L).length), (R ((s.n - 1) :: s.L)[k]).b = (s.L ++ [s.n - 1])[k]'(by simp; omega) := by
  have hc := ch_at _ (h.ch hn) k (by simp; omega)
  refine ⟨by simp; omega, ?_⟩
  have e := hc.1
  simp only [List.getElem_cons_succ] at e
  rw [← e]
  congr 2
  cases k with
  | zero => rfl
  | succ k =>
    simp only [List.getElem_cons_succ]
    rw [List.getElem_append_left (by omega)]
theorem Rc.Ok.lastIs {s : Rc} {R : Nat → Lnk} (h : s.Ok R) (hn : 0 < s.n) (hL : s.L ≠ []) : (R (s.n - 1)).a = s.L.getLastD 0 := by
  have hc := ch_at _ (h.ch hn) s.L.length (by simp)
  have e := hc.2
  simp only [List.getElem_cons_succ] at e
  rw [List.getElem_append_right (by omega)] at e
  simp at e
  rw [e]
  have hpos : 0 < s.L.length := List.length_pos_iff.2 hL
  rw [List.getLastD_eq_getLast?, List.getLast?_eq_some_getLast hL, List.getLast_eq_getElem]
  simp only [Option.getD_some]
  obtain ⟨k, hk⟩ : ∃ k, s.L.length = k + 1 := ⟨s.L.length - 1, by omega⟩
  simp only [hk, List.getElem_cons_succ, Nat.add_sub_cancel]
  rw [List.getElem_append_left (by omega)]

end Go.Proofs.Ytkkjdpmkiedbiaa
