/-
  Sorting in places: what a merge by rotations leaves, in order: plain facts. No condition.
-/
import Derived.Test.YtmmggalcebepeaaNe
namespace Go.Proofs.Ytmmggalcebepeaa
set_option maxRecDepth 100000

/-- The order T that a comparison tells, of those of which the one with the greater number stood ahead. -/
structure Tol (T : Nat → Nat → Prop) (cf : Nat → Nat → Int) : Prop where
  tr : ∀ x y z, T x y → T y z → T x z
  lt : ∀ x y, y < x → cf y x < 0 → T y x
  ge : ∀ x y, y < x → ¬ cf y x < 0 → T x y
def Srt (T : Nat → Nat → Prop) (D : Nat → Nat) (a b : Nat) : Prop := ∀ i j, a ≤ i → i < j → j < b → T (D i) (D j)
/-- Those on the left have greater numbers. -/
def LR (D : Nat → Nat) (a m b : Nat) : Prop := ∀ i j, a ≤ i → i < m → m ≤ j → j < b → D j < D i
/-- The same, but for the order from a to b. -/
def Prm (D D' : Nat → Nat) (a b : Nat) : Prop := ∃ s t : Nat → Nat, (∀ k, t (s k) = k) ∧ (∀ k, s (t k) = k) ∧ (∀ k, ¬ (a ≤ k ∧ k < b) → s k = k) ∧ ∀ k, D' k = D (s k)
theorem Prm.refl (D : Nat → Nat) (a b : Nat) : Prm D D a b := ⟨id, id, fun _ => rfl, fun _ => rfl, fun _ _ => rfl, fun _ => rfl⟩
theorem Prm.trans {D D' D'' : Nat → Nat} {a b : Nat} (h : Prm D D' a b) (k : Prm D' D'' a b) : Prm D D'' a b := by
  obtain ⟨s, t, h1, h2, h3, h4⟩ := h
  obtain ⟨s', t', k1, k2, k3, k4⟩ := k
  exact ⟨fun x => s (s' x), fun x => t' (t x), fun x => by simp [h1, k1], fun x => by simp [h2, k2], fun x hx => by simp only [k3 x hx, h3 x hx], fun x => by rw [k4, h4]⟩
theorem Prm.wide {D D' : Nat → Nat} {a b a' b' : Nat} (h : Prm D D' a b) (ha : a' ≤ a) (hb : b ≤ b') : Prm D D' a' b' := by
  obtain ⟨s, t, h1, h2, h3, h4⟩ := h
  exact ⟨s, t, h1, h2, fun k hk => h3 k (by omega), h4⟩
theorem Prm.out {D D' : Nat → Nat} {a b : Nat} (h : Prm D D' a b) (k : Nat) (hk : ¬ (a ≤ k ∧ k < b)) : D' k = D k := by
  obtain ⟨s, t, h1, h2, h3, h4⟩ := h
  rw [h4, h3 k hk]
theorem Prm.into {D D' : Nat → Nat} {a b : Nat} (h : Prm D D' a b) (k : Nat) (hk : a ≤ k ∧ k < b) : ∃ j, a ≤ j ∧ j < b ∧ D' k = D j := by
  obtain ⟨s, t, h1, h2, h3, h4⟩ := h
  refine ⟨s k, ?_, ?_, h4 k⟩
  all_goals
    by_cases hs : a ≤ s k ∧ s k < b
    · omega
    · have e := h3 _ hs
      have e2 := congrArg t e
      rw [h1, h1] at e2
      omega
theorem Prm.rot (D : Nat → Nat) (a m b : Nat) (h1 : a ≤ m) (h2 : m ≤ b) : Prm D (rotD D a m b) a b := by
  refine ⟨fun k => if a ≤ k ∧ k < a + (b - m) then k - a + m else if a + (b - m) ≤ k ∧ k < b then k - (b - m) else k, fun k => if a ≤ k ∧ k < m then k + (b - m) else if m ≤ k ∧ k < b then k - m + a else k, fun k => ?_, fun k => ?_, fun k hk => ?_, fun k => ?_⟩
  · dsimp only
    repeat' split
    all_goals omega
  · dsimp only
    repeat' split
    all_goals omega
  · dsimp only
    rw [if_neg (by omega), if_neg (by omega)]
  · unfold rotD
    dsimp only
    repeat' split
    all_goals rfl
theorem rot_none (D : Nat → Nat) (a m b : Nat) (h1 : a ≤ m) (h2 : m ≤ b) (h : a = m ∨ m = b) : rotD D a m b = D := by
  funext k
  unfold rotD
  repeat' split
  all_goals first | omega | rfl | (congr 1; omega)
theorem LR.prm {D D' : Nat → Nat} {a m b a' b' : Nat} (h : LR D a m b) (hp : Prm D D' a' b') (hd : b' ≤ m ∧ a ≤ a' ∨ m ≤ a' ∧ b' ≤ b) : LR D' a m b := fun i j h1 h2 h3 h4 => by
  have hi : ∃ i', a ≤ i' ∧ i' < m ∧ D' i = D i' := by
    by_cases q : a' ≤ i ∧ i < b'
    · obtain ⟨i', q1, q2, q3⟩ := hp.into i q
      exact ⟨i', by omega, by omega, q3⟩
    · exact ⟨i, h1, h2, hp.out i q⟩
  have hj : ∃ j', m ≤ j' ∧ j' < b ∧ D' j = D j' := by
    by_cases q : a' ≤ j ∧ j < b'
    · obtain ⟨j', q1, q2, q3⟩ := hp.into j q
      exact ⟨j', by omega, by omega, q3⟩
    · exact ⟨j, h3, h4, hp.out j q⟩
  obtain ⟨i', i1, i2, i3⟩ := hi
  obtain ⟨j', j1, j2, j3⟩ := hj
  rw [i3, j3]
  exact h i' j' i1 i2 j1 j2
section
variable {T : Nat → Nat → Prop}
theorem Srt.cut {D : Nat → Nat} {a b a' b' : Nat} (h : Srt T D a b) (ha : a ≤ a') (hb : b' ≤ b) : Srt T D a' b' := fun i j h1 h2 h3 => h i j (by omega) h2 (by omega)
theorem Srt.few {D : Nat → Nat} {a b : Nat} (h : b ≤ a + 1) : Srt T D a b := fun i j h1 h2 h3 => by omega
theorem Srt.prm {D D' : Nat → Nat} {a b a' b' : Nat} (h : Srt T D a b) (hp : Prm D D' a' b') (hd : b' ≤ a ∨ b ≤ a') : Srt T D' a b := fun i j h1 h2 h3 => by
  rw [hp.out i (by omega), hp.out j (by omega)]
  exact h i j h1 h2 h3
/-- One on the left, or one on the right, is put where it belongs. -/
theorem srt_right {D : Nat → Nat} {a i m : Nat} (h : Srt T D a m) (hi : a ≤ i ∧ i ≤ m) (h1 : ∀ k, a ≤ k → k < i → T (D k) (D m)) (h2 : ∀ k, i ≤ k → k < m → T (D m) (D k)) : Srt T (rotD D i m (m + 1)) a (m + 1) := by
  intro x y hx hxy hy
  unfold rotD
  repeat' split
  all_goals first
    | (exfalso; omega)
    | exact h _ _ (by omega) (by omega) (by omega)
    | (rw [show x - i + m = m from by omega]; exact h2 _ (by omega) (by omega))
    | (rw [show y - i + m = m from by omega]; exact h1 _ (by omega) (by omega))
theorem srt_left {D : Nat → Nat} {a i b : Nat} (h : Srt T D (a + 1) b) (hi : a + 1 ≤ i ∧ i ≤ b) (h1 : ∀ k, a + 1 ≤ k → k < i → T (D k) (D a)) (h2 : ∀ k, i ≤ k → k < b → T (D a) (D k)) : Srt T (rotD D a (a + 1) i) a b := by
  intro x y hx hxy hy
  unfold rotD
  repeat' split
  all_goals first
    | (exfalso; omega)
    | exact h _ _ (by omega) (by omega) (by omega)
    | (rw [show y - (i - (a + 1)) = a from by omega]; exact h1 _ (by omega) (by omega))
    | (rw [show x - (i - (a + 1)) = a from by omega]; exact h2 _ (by omega) (by omega))
/-- What the search finds. -/
structure Fnd (T : Nat → Nat → Prop) (D : Nat → Nat) (a m b s : Nat) : Prop where
  ge : a ≤ s ∧ (a + b) / 2 + m ≤ s + b
  le : s ≤ m ∧ s ≤ (a + b) / 2
  fst : ∀ k, a ≤ k → (a + b) / 2 + m ≤ k + b → k < s → T (D k) (D ((a + b) / 2 + m - 1 - k))
  snd : ∀ k, s ≤ k → k < m → k < (a + b) / 2 → T (D ((a + b) / 2 + m - 1 - k)) (D k)
variable {D : Nat → Nat} {a m b s : Nat}
theorem Fnd.one {cf : Nat → Nat → Int} (ho : Tol T cf) (h : Fnd T D a m b s) (hL : Srt T D a m) (hR : Srt T D m b) (_ham : a < m) (hmb : m < b) (i j : Nat) (hi : a ≤ i) (his : i < s) (hj : (a + b) / 2 + m - s ≤ j) (hjb : j < b) : T (D i) (D j) := by
  obtain ⟨g1, g2⟩ := h.ge
  obtain ⟨l1, l2⟩ := h.le
  have x := h.fst (s - 1) (by omega) (by omega) (by omega)
  have e : (a + b) / 2 + m - 1 - (s - 1) = (a + b) / 2 + m - s := by omega
  rw [e] at x
  have y : T (D i) (D ((a + b) / 2 + m - s)) := by
    rcases Nat.eq_or_lt_of_le (show i ≤ s - 1 by omega) with q | q
    · rw [q]; exact x
    · exact ho.tr _ _ _ (hL i (s - 1) hi q (by omega)) x
  rcases Nat.eq_or_lt_of_le hj with q | q
  · rw [← q]; exact y
  · exact ho.tr _ _ _ y (hR _ j (by omega) q hjb)
theorem Fnd.two {cf : Nat → Nat → Int} (ho : Tol T cf) (h : Fnd T D a m b s) (hL : Srt T D a m) (hR : Srt T D m b) (_ham : a < m) (_hmb : m < b) (i j : Nat) (hi : m ≤ i) (hie : i < (a + b) / 2 + m - s) (hj : s ≤ j) (hjm : j < m) : T (D i) (D j) := by
  obtain ⟨g1, g2⟩ := h.ge
  obtain ⟨l1, l2⟩ := h.le
  have x := h.snd s (by omega) (by omega) (by omega)
  have y : T (D i) (D s) := by
    rcases Nat.eq_or_lt_of_le (show i ≤ (a + b) / 2 + m - 1 - s by omega) with q | q
    · rw [q]; exact x
    · exact ho.tr _ _ _ (hR i _ hi q (by omega)) x
  rcases Nat.eq_or_lt_of_le hj with q | q
  · rw [← q]; exact y
  · exact ho.tr _ _ _ y (hL s j (by omega) q hjm)
/-- Behind the rotation: two merges are left, and all on the left belong ahead of all on the right. -/
structure Mid (T : Nat → Nat → Prop) (D : Nat → Nat) (a s mid e b : Nat) : Prop where
  s1 : Srt T D a s
  s2 : Srt T D s mid
  s3 : Srt T D mid e
  s4 : Srt T D e b
  l1 : LR D a s mid
  l2 : LR D mid e b
  cr : ∀ i j, a ≤ i → i < mid → mid ≤ j → j < b → T (D i) (D j)
theorem Fnd.mid {cf : Nat → Nat → Int} (ho : Tol T cf) (h : Fnd T D a m b s) (hL : Srt T D a m) (hR : Srt T D m b) (hlr : LR D a m b) (ham : a < m) (hmb : m < b) :
    Mid T (rotD D s m ((a + b) / 2 + m - s)) a s ((a + b) / 2) ((a + b) / 2 + m - s) b := by
  have o1 := h.one ho hL hR ham hmb
  have o2 := h.two ho hL hR ham hmb
  obtain ⟨g1, g2⟩ := h.ge
  obtain ⟨l1, l2⟩ := h.le
  clear h
  constructor
  · intro x y hx hxy hy
    unfold rotD
    rw [if_neg (by omega), if_neg (by omega), if_neg (by omega), if_neg (by omega)]
    exact hL _ _ (by omega) hxy (by omega)
  · intro x y hx hxy hy
    unfold rotD
    rw [if_pos (by omega), if_pos (by omega)]
    exact hR _ _ (by omega) (by omega) (by omega)
  · intro x y hx hxy hy
    unfold rotD
    rw [if_neg (by omega), if_pos (by omega), if_neg (by omega), if_pos (by omega)]
    exact hL _ _ (by omega) (by omega) (by omega)
  · intro x y hx hxy hy
    unfold rotD
    rw [if_neg (by omega), if_neg (by omega), if_neg (by omega), if_neg (by omega)]
    exact hR _ _ (by omega) (by omega) (by omega)
  · intro x y hx hxy hy hyb
    unfold rotD
    rw [if_pos (c := s ≤ y ∧ _) (by omega), if_neg (by omega), if_neg (by omega)]
    exact hlr _ _ (by omega) (by omega) (by omega) (by omega)
  · intro x y hx hxy hy hyb
    unfold rotD
    rw [if_neg (by omega), if_neg (by omega), if_neg (by omega), if_pos (by omega)]
    exact hlr _ _ (by omega) (by omega) (by omega) (by omega)
  · intro x y hx hxy hy hyb
    unfold rotD
    repeat' split
    all_goals first
      | (exfalso; omega)
      | exact o1 _ _ (by omega) (by omega) (by omega) (by omega)
      | exact o2 _ _ (by omega) (by omega) (by omega) (by omega)
      | exact hL _ _ (by omega) (by omega) (by omega)
      | exact hR _ _ (by omega) (by omega) (by omega)
theorem Mid.done {D D2 D3 : Nat → Nat} {a s mid e b : Nat} (h : Mid T D a s mid e b) (p2 : Prm D D2 a mid) (h2 : Srt T D2 a mid) (p3 : Prm D2 D3 mid b) (h3 : Srt T D3 mid b) : Srt T D3 a b := fun i j h4 h5 h6 => by
  by_cases hj : j < mid
  · exact (h2.prm p3 (.inr (Nat.le_refl _))) i j h4 h5 hj
  · by_cases hi : mid ≤ i
    · exact h3 i j hi h5 h6
    · obtain ⟨i', a1, a2, a3⟩ := p2.into i ⟨h4, by omega⟩
      obtain ⟨j', b1, b2, b3⟩ := p3.into j ⟨by omega, h6⟩
      rw [p3.out i (by omega), a3, b3, p2.out j' (by omega)]
      exact h.cr i' j' a1 a2 b1 b2
end

end Go.Proofs.Ytmmggalcebepeaa
