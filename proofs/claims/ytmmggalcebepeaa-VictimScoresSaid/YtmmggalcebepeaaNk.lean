/-
  What the stable sort of Go's package slices leaves. Condition: the row is the caller's own, and numbers fall along it.
-/
import Derived.Test.YtmmggalcebepeaaNi
namespace Go.Proofs.Ytmmggalcebepeaa
open Go.RowKit
set_option maxRecDepth 100000

/-- Sorted in blocks, of which those on the left have greater numbers. -/
structure Blk (T : Nat → Nat → Prop) (D : Nat → Nat) (n bs : Nat) : Prop where
  srt : ∀ k, Srt T D (k * bs) (min ((k + 1) * bs) n)
  lr : ∀ k, LR D 0 (k * bs) n
/-- q pairs of blocks are one. -/
structure InB (T : Nat → Nat → Prop) (D : Nat → Nat) (n bs q : Nat) : Prop where
  fst : ∀ k, k < q → Srt T D (k * (2 * bs)) ((k + 1) * (2 * bs))
  snd : ∀ k, 2 * q ≤ k → Srt T D (k * bs) (min ((k + 1) * bs) n)
  lr1 : ∀ k, LR D 0 (k * (2 * bs)) n
  lr2 : ∀ k, 2 * q ≤ k → LR D 0 (k * bs) n
/-- q blocks of twenty are sorted. -/
structure Twe (T : Nat → Nat → Prop) (D D' : Nat → Nat) (n q : Nat) : Prop where
  srt : ∀ k, k < q → Srt T D' (k * 20) ((k + 1) * 20)
  lr : ∀ k, LR D' 0 (k * 20) n
  prm : Prm D D' 0 (q * 20)
section
variable {T : Nat → Nat → Prop} {D D' D'' : Nat → Nat} {n bs q : Nat}
theorem LR.keep {x a b : Nat} (h : LR D 0 x n) (hp : Prm D D' a b) (hb : b ≤ n) (hd : b ≤ x ∨ x ≤ a) : LR D' 0 x n := h.prm hp (by omega)
theorem Twe.start (h : ∀ i j, i < j → j < n → D j < D i) : Twe T D D n 0 := ⟨fun k hk => by omega, fun k i j _ h1 h2 h3 => h i j (by omega) h3, Prm.refl _ _ _⟩
theorem Twe.fall (h : ∀ i j, i < j → j < n → D j < D i) (H : Twe T D D' n q) : ∀ i j, q * 20 ≤ i → i < j → j < n → D' j < D' i := fun i j h1 h2 h3 => by
  rw [H.prm.out i (by omega), H.prm.out j (by omega)]
  exact h i j h2 h3
theorem Twe.step (H : Twe T D D' n q) (hb : (q + 1) * 20 ≤ n) (hp : Prm D' D'' (q * 20) ((q + 1) * 20)) (hs : Srt T D'' (q * 20) ((q + 1) * 20)) : Twe T D D'' n (q + 1) := by
  refine ⟨fun k hk => ?_, fun k => (H.lr k).keep hp hb (by omega), (H.prm.wide (Nat.le_refl _) (by omega)).trans (hp.wide (Nat.zero_le _) (Nat.le_refl _))⟩
  rcases Nat.eq_or_lt_of_le (show k ≤ q by omega) with e | e
  · rw [e]; exact hs
  · exact (H.srt k e).prm hp (.inr (by omega))
theorem Twe.last (H : Twe T D D' n q) (hq : q * 20 ≤ n) (hb : n < (q + 1) * 20) (hp : Prm D' D'' (q * 20) n) (hs : Srt T D'' (q * 20) n) : Blk T D'' n 20 ∧ Prm D D'' 0 n := by
  refine ⟨⟨fun k => ?_, fun k => (H.lr k).keep hp (Nat.le_refl _) ?_⟩, (H.prm.wide (Nat.le_refl _) hq).trans (hp.wide (Nat.zero_le _) (Nat.le_refl _))⟩
  · by_cases h1 : k < q
    · exact ((H.srt k h1).prm hp (.inr (by omega))).cut (Nat.le_refl _) (by omega)
    · by_cases h2 : k = q
      · rw [h2]; exact hs.cut (Nat.le_refl _) (by omega)
      · exact Srt.few (by omega)
  · by_cases h1 : k ≤ q
    · omega
    · exact .inl (by omega)
theorem dbl (q bs : Nat) : 2 * q * bs = q * (2 * bs) := by rw [Nat.mul_comm 2 q, Nat.mul_assoc]
theorem InB.start (h : Blk T D n bs) : InB T D n bs 0 := ⟨fun k hk => by omega, fun k _ => h.srt k, fun k => by rw [← dbl]; exact h.lr _, fun k _ => h.lr k⟩
theorem blk_end (k q bs : Nat) (h : 2 * (q + 1) ≤ k) : (q + 1) * (2 * bs) ≤ k * bs := by
  rw [← dbl]
  exact Nat.mul_le_mul_right _ h
theorem InB.pre (H : InB T D n bs q) (m b : Nat) (hm : m = q * (2 * bs) + bs) (hb : b = q * (2 * bs) + 2 * bs ∨ m ≤ b ∧ b = n ∧ n ≤ q * (2 * bs) + 2 * bs) (hn : b ≤ n) : Srt T D (q * (2 * bs)) m ∧ Srt T D m b ∧ LR D (q * (2 * bs)) m b := by
  have e0 := dbl q bs
  have e1 : (2 * q + 1) * bs = m := by rw [Nat.add_mul, e0]; omega
  have e2 : (2 * q + 1 + 1) * bs = q * (2 * bs) + 2 * bs := by rw [Nat.add_mul, e1]; omega
  have s1 := H.snd (2 * q) (Nat.le_refl _)
  have s2 := H.snd (2 * q + 1) (by omega)
  have s3 := H.lr2 (2 * q + 1) (by omega)
  rw [e0, e1] at s1
  rw [e1, e2] at s2
  rw [e1] at s3
  exact ⟨s1.cut (Nat.le_refl _) (by omega), s2.cut (Nat.le_refl _) (by omega), fun i j h1 h2 h3 h4 => s3 i j (Nat.zero_le _) h2 h3 (by omega)⟩
theorem mul_split (k q t : Nat) : (k < q ∧ (k + 1) * t ≤ q * t) ∨ k = q ∨ (q < k ∧ (q + 1) * t ≤ k * t) := by
  rcases Nat.lt_trichotomy k q with h | h | h
  · exact .inl ⟨h, Nat.mul_le_mul_right _ h⟩
  · exact .inr (.inl h)
  · exact .inr (.inr ⟨h, Nat.mul_le_mul_right _ h⟩)
theorem InB.step (H : InB T D n bs q) (hb : q * (2 * bs) + 2 * bs ≤ n) (hp : Prm D D' (q * (2 * bs)) (q * (2 * bs) + 2 * bs)) (hs : Srt T D' (q * (2 * bs)) (q * (2 * bs) + 2 * bs)) : InB T D' n bs (q + 1) := by
  have e : (q + 1) * (2 * bs) = q * (2 * bs) + 2 * bs := by rw [Nat.add_mul, Nat.one_mul]
  refine ⟨fun k hk => ?_, fun k hk => ?_, fun k => ?_, fun k hk => ?_⟩
  · rcases mul_split k q (2 * bs) with ⟨h1, h2⟩ | h1 | ⟨h1, h2⟩
    · exact (H.fst k h1).prm hp (.inr h2)
    · rw [h1, e]; exact hs
    · omega
  · have := blk_end k q bs hk
    exact (H.snd k (by omega)).prm hp (.inl (by omega))
  · refine (H.lr1 k).keep hp hb ?_
    rcases mul_split k q (2 * bs) with ⟨h1, h2⟩ | h1 | ⟨h1, h2⟩
    · rw [Nat.add_mul] at h2
      omega
    · rw [h1]; exact .inr (Nat.le_refl _)
    · exact .inl (by omega)
  · have := blk_end k q bs hk
    exact (H.lr2 k (by omega)).keep hp hb (.inl (by omega))
theorem InB.last (H : InB T D n bs q) (_hq : q * (2 * bs) ≤ n) (hb : n < q * (2 * bs) + 2 * bs) (hp : Prm D D' (q * (2 * bs)) n) (hs : Srt T D' (q * (2 * bs)) n) : Blk T D' n (2 * bs) := by
  have e : (q + 1) * (2 * bs) = q * (2 * bs) + 2 * bs := by rw [Nat.add_mul, Nat.one_mul]
  refine ⟨fun k => ?_, fun k => ?_⟩
  · rcases mul_split k q (2 * bs) with ⟨h1, h2⟩ | h1 | ⟨h1, h2⟩
    · exact ((H.fst k h1).prm hp (.inr h2)).cut (Nat.le_refl _) (Nat.min_le_left _ _)
    · rw [h1]; exact hs.cut (Nat.le_refl _) (Nat.min_le_right _ _)
    · exact Srt.few (by omega)
  · refine (H.lr1 k).keep hp (Nat.le_refl _) ?_
    rcases mul_split k q (2 * bs) with ⟨h1, h2⟩ | h1 | ⟨h1, h2⟩
    · rw [Nat.add_mul] at h2
      omega
    · rw [h1]; exact .inr (Nat.le_refl _)
    · exact .inl (by omega)
theorem Blk.all (h : Blk T D n bs) (hb : n ≤ bs) : Srt T D 0 n := by
  have := h.srt 0
  rw [Nat.zero_mul] at this
  exact this.cut (Nat.le_refl _) (by omega)
end

/-- What a call leaves that sorts the row. -/
def SortPost (w : World) (B : Nat) (A : Option Addr) (n c : Nat) (f : Nat → Ent) (T : Nat → Nat → Prop) (D : Nat → Nat) (e : Ending) (w' : World) : Prop := e = .returned (.tuple #[]) ∧ ∃ D', RP w' B A n c f D' ∧ Prm D D' 0 n ∧ Srt T D' 0 n ∧ Below B w w'

set_option maxHeartbeats 4000000 in
theorem stable_any (w : World) (B : Nat) (A : Option Addr) (n c : Nat) (f : Nat → Ent) (D : Nat → Nat) (h : RP w B A n c f D) (g : FuncId) (cf : Nat → Nat → Int) (hc : Cmp g f cf) (T : Nat → Nat → Prop) (ho : Tol T cf)
    (hd : ∀ i j, i < j → j < n → D j < D i) (hn : n ≤ 100000) :
    Calls Try.prog 22 #[.slice A n c, .int .i64 (n : Int), .func (.func g) #[] #[]] w (SortPost w B A n c f T D) := by
  have HR := Lib.hid h
  have HC := Lib.hid hc
  have HO := Lib.hid ho
  have HD := Lib.hid hd
  clear h hc ho hd
  go_enter Try.func22, Try.ntmps22
  go_wp2_with fail
  go_loopw [7, 8] (fun x y wr => ∃ (q a b : Nat) (D' : Nat → Nat), x = .int .i64 a ∧ y = .int .i64 b ∧ a = q * 20 ∧ b = a + 20 ∧ a ≤ n ∧ Twe T D D' n q ∧ RP wr B A n c f D' ∧ Below B w wr) (fun x _ _ => n + 1 - (RowKit.intOf x).toNat)
  case atStart => exact ⟨0, 0, 20, D, rfl, rfl, rfl, rfl, Nat.zero_le _, Twe.start HD.out, HR.out, Below.refl _ _⟩
  case round =>
    obtain ⟨q, a, b, D', rfl, rfl, ha, hb, han, ht, hr, hB⟩ := hrel
    have HT := Lib.hid ht
    have HK2 := Lib.hid hr
    have HB2 := Lib.hid hB
    have HA : Hid (a = q * 20 ∧ b = a + 20) := Lib.hid ⟨ha, hb⟩
    have hb9 : b ≤ 200000 := by omega
    clear ht hr hB ha hb
    obtain ⟨W, rfl⟩ : ∃ W, W = wr := ⟨_, rfl⟩
    by_cases hlt : b ≤ n
    · have hlt' : (b : Int) ≤ (n : Int) := by omega
      have c1 := Lib.hid (insertion_any W B A n c f D' HK2.out g cf HC.out T HO.out a b (by rw [HA.out.1]; exact fun i j h1 h2 h3 => HT.out.fall HD.out i j h1 h2 (by omega)) (by have := HA.out; omega) hlt (by omega))
      go_wp2_with fail
      refine c1.out.mono ?_
      rintro e1 w1 ⟨rfl, D'', hr1, hp1, hs1, hb1⟩
      have HK3 := Lib.hid hr1
      have HB3 := Lib.hid (HB2.out.trans hb1)
      have HT3 : Hid (Twe T D D'' n (q + 1)) := Lib.hid (by
        have h1 := HA.out
        rw [show b = (q + 1) * 20 by omega, h1.1] at hp1 hs1
        exact HT.out.step (by omega) hp1 hs1)
      clear hr1 hb1 hp1 hs1 c1
      go_wp2
      exact ⟨⟨q + 1, b, b + 20, D'', rfl, by go_num, by have := HA.out; omega, rfl, hlt, HT3.out, HK3.out, HB3.out⟩, by have := HA.out; simp [RowKit.intOf]; omega⟩
    · have hlt' : ¬ (b : Int) ≤ (n : Int) := by omega
      have c1 := Lib.hid (insertion_any W B A n c f D' HK2.out g cf HC.out T HO.out a n (by rw [HA.out.1]; exact fun i j h1 h2 h3 => HT.out.fall HD.out i j h1 h2 h3) han (Nat.le_refl _) (by omega))
      go_wp2_with fail
      refine c1.out.mono ?_
      rintro e1 w1 ⟨rfl, D'', hr1, hp1, hs1, hb1⟩
      have HK3 := Lib.hid hr1
      have HB3 := Lib.hid (HB2.out.trans hb1)
      have HT3 : Hid (Blk T D'' n 20 ∧ Prm D D'' 0 n) := Lib.hid (by
        have h1 := HA.out
        rw [h1.1] at hp1 hs1
        exact HT.out.last (by omega) (by omega) hp1 hs1)
      clear hr1 hb1 hp1 hs1 c1 HK2 HB2 HT
      go_wp2_with fail
      go_loopw [6] (fun x wr => ∃ (bs : Nat) (D' : Nat → Nat), x = .int .i64 bs ∧ 20 ≤ bs ∧ bs ≤ 200000 ∧ Blk T D' n bs ∧ Prm D D' 0 n ∧ RP wr B A n c f D' ∧ Below B w wr) (fun x _ => n - (RowKit.intOf x).toNat)
      case atStart => exact ⟨20, D'', rfl, Nat.le_refl _, by omega, HT3.out.1, HT3.out.2, HK3.out, HB3.out⟩
      case round =>
        clear HT3 HK3 HB3 hlt hlt' han hb9
        obtain ⟨bs, D3, rfl, hbs, hbs2, hblk, hprm, hr, hB⟩ := hrel
        have HBK := Lib.hid hblk
        have HP3 := Lib.hid hprm
        have HK3 := Lib.hid hr
        have HB3 := Lib.hid hB
        clear hblk hprm hr hB
        by_cases hlt : bs < n
        · have hlt' : (bs : Int) < (n : Int) := by omega
          obtain ⟨t, ht⟩ : ∃ t, t = 2 * bs := ⟨_, rfl⟩
          have et : 2 * (bs : Int) = (t : Int) := by omega
          have et' : (bs : Int) * 2 = (t : Int) := by omega
          have wt : IntKind.i64.wrap (t : Int) = (t : Int) := by rw [IntKind.wrap_i64]; omega
          have ht2 : t ≤ 200000 ∧ bs < t := by omega
          have HT := Lib.hid ht
          clear ht
          go_wp2_with fail
          go_loopw [7, 8] (fun x y wr => ∃ (q a b : Nat) (D' : Nat → Nat), x = .int .i64 a ∧ y = .int .i64 b ∧ a = q * (2 * bs) ∧ b = a + t ∧ a ≤ n ∧ InB T D' n bs q ∧ Prm D D' 0 n ∧ RP wr B A n c f D' ∧ Below B w wr) (fun x _ _ => n + 1 - (RowKit.intOf x).toNat)
          case atStart => exact ⟨0, 0, t, D3, rfl, rfl, by omega, by omega, Nat.zero_le _, InB.start HBK.out, HP3.out, HK3.out, HB3.out⟩
          case round =>
            clear HBK HP3 HK3 HB3
            obtain ⟨q, a, b, D4, rfl, rfl, ha, hb, han, hin, hprm, hr, hB⟩ := hrel
            have HIN := Lib.hid hin
            have HP3 := Lib.hid hprm
            have HK3 := Lib.hid hr
            have HB3 := Lib.hid hB
            have HA : Hid (a = q * (2 * bs) ∧ b = a + 2 * bs) := Lib.hid ⟨ha, by rw [hb, HT.out]⟩
            obtain ⟨m, hm⟩ : ∃ m, m = a + bs := ⟨_, rfl⟩
            have em : (a : Int) + (bs : Int) = (m : Int) := by omega
            have wm : IntKind.i64.wrap (m : Int) = (m : Int) := by rw [IntKind.wrap_i64]; omega
            have hb9 : b ≤ 400000 := by omega
            have HM := Lib.hid hm
            clear hin hprm hr hB ha hb hm
            obtain ⟨W, rfl⟩ : ∃ W, W = wr := ⟨_, rfl⟩
            by_cases hlb : b ≤ n
            · have hlb' : (b : Int) ≤ (n : Int) := by omega
              obtain ⟨z, hz⟩ : ∃ z, z = b + t := ⟨_, rfl⟩
              have ez : (b : Int) + (t : Int) = (z : Int) := by omega
              have wz : IntKind.i64.wrap (z : Int) = (z : Int) := by rw [IntKind.wrap_i64]; omega
              have HZ := Lib.hid hz
              have c1 := Lib.hid (by
                have h1 := HA.out
                have h2 := HM.out
                have h3 := HIN.out.pre m b (by rw [h2, h1.1]) (.inl (by rw [h1.2, h1.1])) hlb
                rw [← h1.1] at h3
                exact merge_any B A n c f g cf HC.out T HO.out (by omega) (b - a) W D4 a m b (Nat.le_refl _) HK3.out (by omega) (by omega) hlb h3.1 h3.2.1 h3.2.2)
              clear hz
              go_wp2_with fail
              refine c1.out.mono ?_
              rintro e1 w1 ⟨rfl, D5, hr1, hp1, hs1, hb1⟩
              have HK4 := Lib.hid hr1
              have HB4 := Lib.hid (HB3.out.trans hb1)
              have HT4 : Hid (InB T D5 n bs (q + 1) ∧ Prm D D5 0 n) := Lib.hid (by
                have h1 := HA.out
                have hp2 := hp1
                rw [h1.2, h1.1] at hp1 hs1
                exact ⟨HIN.out.step (by omega) hp1 hs1, HP3.out.trans (hp2.wide (Nat.zero_le _) hlb)⟩)
              clear hr1 hb1 hp1 hs1 c1 HK3 HB3 HIN HP3
              go_wp2
              refine ⟨⟨q + 1, b, z, D5, rfl, rfl, ?_, by rw [HZ.out], hlb, HT4.out.1, HT4.out.2, HK4.out, HB4.out⟩, by have := HA.out; simp [RowKit.intOf]; omega⟩
              have h1 := HA.out
              rw [h1.2, h1.1, Nat.add_mul, Nat.one_mul]
            · have hlb' : ¬ (b : Int) ≤ (n : Int) := by omega
              by_cases hmn : m < n
              · have hmn' : (m : Int) < (n : Int) := by omega
                have c1 := Lib.hid (by
                  have h1 := HA.out
                  have h2 := HM.out
                  have h3 := HIN.out.pre m n (by rw [h2, h1.1]) (.inr (by omega)) (Nat.le_refl _)
                  rw [← h1.1] at h3
                  exact merge_any B A n c f g cf HC.out T HO.out (by omega) (n - a) W D4 a m n (Nat.le_refl _) HK3.out (by omega) hmn (Nat.le_refl _) h3.1 h3.2.1 h3.2.2)
                go_wp2_with fail
                refine c1.out.mono ?_
                rintro e1 w1 ⟨rfl, D5, hr1, hp1, hs1, hb1⟩
                have HK4 := Lib.hid hr1
                have HB4 := Lib.hid (HB3.out.trans hb1)
                have HT4 : Hid (Blk T D5 n t ∧ Prm D D5 0 n) := Lib.hid (by
                  have h1 := HA.out
                  have hp2 := hp1
                  rw [h1.1] at hp1 hs1
                  rw [HT.out]
                  exact ⟨HIN.out.last (by omega) (by omega) hp1 hs1, HP3.out.trans (hp2.wide (Nat.zero_le _) (Nat.le_refl _))⟩)
                clear hr1 hb1 hp1 hs1 c1 HK3 HB3 HIN HP3
                go_wp2
                go_roundw
                case rel => exact ⟨t, D5, rfl, by omega, ht2.1, HT4.out.1, HT4.out.2, HK4.out, HB4.out⟩
                case measure =>
                  simp [RowKit.intOf]
                  omega
              · have hmn' : ¬ (m : Int) < (n : Int) := by omega
                have HT4 : Hid (Blk T D4 n t) := Lib.hid (by
                  have h1 := HA.out
                  have h2 := HM.out
                  have h3 := HIN.out.snd (2 * q) (Nat.le_refl _)
                  have e1 : (2 * q + 1) * bs = q * (2 * bs) + bs := by rw [Nat.add_mul, dbl, Nat.one_mul]
                  rw [dbl, e1] at h3
                  rw [HT.out]
                  exact HIN.out.last (by omega) (by omega) (Prm.refl _ _ _) (h3.cut (Nat.le_refl _) (by omega)))
                clear HIN
                go_wp2
                go_roundw
                case rel => exact ⟨t, D4, rfl, by omega, ht2.1, HT4.out, HP3.out, HK3.out, HB3.out⟩
                case measure =>
                  simp [RowKit.intOf]
                  omega
        · have hlt' : ¬ (bs : Int) < (n : Int) := by omega
          go_wp2
          go_end0
          exact ⟨rfl, D3, HK3.out, HP3.out, HBK.out.all (by omega), HB3.out⟩

set_option maxHeartbeats 400000 in
theorem sortStable_any (w : World) (B : Nat) (A : Option Addr) (n c : Nat) (f : Nat → Ent) (D : Nat → Nat) (h : RP w B A n c f D) (g : FuncId) (cf : Nat → Nat → Int) (hc : Cmp g f cf) (T : Nat → Nat → Prop) (ho : Tol T cf)
    (hd : ∀ i j, i < j → j < n → D j < D i) (hn : n ≤ 100000) :
    Calls Try.prog 18 #[.slice A n c, .func (.func g) #[] #[]] w (SortPost w B A n c f T D) := by
  have c1 := Lib.hid (stable_any w B A n c f D h g cf hc T ho hd hn)
  clear h hc ho hd
  go_enter Try.func18, Try.ntmps18
  go_wp2_with fail
  refine c1.out.mono ?_
  rintro e1 w1 ⟨rfl, D5, hr1, hp1, hs1, hb1⟩
  go_wp2
  go_end0
  exact ⟨rfl, D5, hr1, hp1, hs1, hb1⟩

end Go.Proofs.Ytmmggalcebepeaa
