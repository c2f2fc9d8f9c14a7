/-
  What Order of package recency returns. Condition: the ring lies at the pointer's block.
-/
import Derived.Test.YtkkjdpmkiedbiaaJc
namespace Go.Proofs.Ytkkjdpmkiedbiaa
open Go.RowKit
set_option maxRecDepth 100000

def sliceLen (v : Value) : Nat := match v with
  | .slice _ n _ => n
  | _ => 0
/-- Around the ring: the k-th one, or the end. -/
def Rc.ring (s : Rc) (k : Nat) : Nat := (s.L ++ [s.n - 1]).getD k 0
theorem ring_in {s : Rc} {k : Nat} (h : k < s.L.length) : s.ring k = s.L[k] := by
  unfold Rc.ring
  rw [List.getD_eq_getElem?_getD, List.getElem?_append_left h, List.getElem?_eq_getElem h]
  rfl
theorem ring_end {s : Rc} : s.ring s.L.length = s.n - 1 := by
  unfold Rc.ring
  simp [List.getD_eq_getElem?_getD]
theorem Rc.Ok.goes {s : Rc} {R : Nat → Lnk} (h : s.Ok R) (hn : 0 < s.n) : (R (s.n - 1)).b = s.ring 0 ∧ ∀ k (hk : k < s.L.length), (R s.L[k]).b = s.ring (k + 1) := by
  refine ⟨?_, fun k hk => ?_⟩
  · obtain ⟨_, e⟩ := h.next hn 0 (Nat.zero_le _)
    rw [List.getElem_cons_zero] at e
    rw [e]
    unfold Rc.ring
    rw [List.getD_eq_getElem?_getD, List.getElem?_eq_getElem (by simp)]
    rfl
  · obtain ⟨_, e⟩ := h.next hn (k + 1) (by omega)
    rw [List.getElem_cons_succ] at e
    rw [e]
    unfold Rc.ring
    rw [List.getD_eq_getElem?_getD, List.getElem?_eq_getElem (by simp; omega)]
    rfl
/-- At the head of a round of Order. -/
def OrdRel (w : World) (s : Rc) (l n : Value) (wr : World) : Prop := ∃ (k j : Nat) (A : Option Addr) (c : Nat), k ≤ s.L.length ∧ j = (s.L.take k).length ∧ n = .int .i64 (s.ring k : Int) ∧ l = .slice A j c ∧ wr.ownsRow w.heap.size 3 1 l j (KN.row (s.L.take k)) ∧ Below w.heap.size w wr
set_option maxHeartbeats 1000000 in
theorem rcorder_any (w : World) (t : Nat) (S : Nat → Prop) (s : Rc) (h : RcS w t S s) : Calls Try.prog 17 #[.pointer (some ⟨t, 0, none⟩)] w (NatsPost w s.L) := by
  have hl := rclen_any w t S s h
  have he := rcend_any w t S s h
  obtain ⟨v, R, rfl, hk, h⟩ := h
  by_cases hL0 : s.L = []
  · have HE : Hid (NatsPost w s.L = NatsPost w []) := Lib.hid (by rw [hL0])
    have e1 : s.L.length = 0 := by rw [hL0]; rfl
    rw [e1] at hl
    have HC := Lib.hid hl
    clear h hl he hk e1 hL0
    go_enter Try.func17, Try.ntmps17
    go_wp2_with fail
    refine HC.out.mono ?_
    rintro e w1 ⟨rfl, rfl⟩
    go_wp2
    go_ret
    rw [HE.out]
    exact ⟨none, 0, rfl, World.ownsRow_nil _ _ _ _, Below.refl _ _⟩
  · have hL : 0 < s.L.length := List.length_pos_iff.2 hL0
    clear hL0
    have hll := hk.len
    have hn0 := hk.n
    have h0 : 0 < s.n := by omega
    obtain ⟨c0, c1, f0, f1, hz⟩ := h.head
    obtain ⟨g, d, rfl, hd, gz, gt⟩ := h.ring h0
    obtain ⟨m, hm⟩ : ∃ m, s.n = m + 1 := ⟨s.n - 1, by omega⟩
    have e2 : (s.n : Int) - 1 = (m : Int) := by omega
    have e3 : s.n - 1 = m := by omega
    rw [e2] at he
    obtain ⟨-, r1, -, -⟩ := h.at m (by omega)
    obtain ⟨g1, g2⟩ := hk.goes h0
    rw [e3] at g1
    rw [g1] at r1
    have HM := Lib.hid hm
    have HA := Lib.hid h
    have HK := Lib.hid hk
    have HG := Lib.hid g2
    have HE : Hid (s.ring s.L.length = m) := Lib.hid (ring_end.trans e3)
    have t1 : ((s.L.length : Int) == 0) = false := by simp; exact List.length_pos_iff.1 hL
    have HC := Lib.hid hl
    have HD := Lib.hid he
    have k1 : (m : Int) < (s.n : Int) := by omega
    have hl9 := hll.1
    obtain ⟨i9, j1, j2, j3, j4⟩ : ∃ i, Try.prog.info? 3 = some i ∧ i.zero = some (.int .i64 0) ∧ i.size = 1 ∧ i.bytes = 8 := by
      have h := info_int
      cases hi : Try.prog.info? 3 with
      | none => rw [hi] at h; simp at h
      | some i =>
        rw [hi] at h
        simp at h
        exact ⟨i, rfl, h.1, h.2.1, h.2.2⟩
    have J2 := Lib.hid j2
    have J3 := Lib.hid j3
    have hb9 : i9.bytes * s.L.length ≤ 281474976710656 := by rw [j4]; omega
    clear h hl he hk hll e2 e3 g1 g2 hL hm j2 j3 j4
    go_enter Try.func17, Try.ntmps17
    go_wp2_with fail
    refine HC.out.mono ?_
    rintro e w1 ⟨rfl, rfl⟩
    go_wp2_with fail
    refine HD.out.mono ?_
    rintro e w1 ⟨rfl, rfl⟩
    go_wp2_with (
      refine wpList_make_own w rfl (.const (.int .i64 0)) (.tmp 14) 26 rfl w.heap.size 3 i9 _ 1 Try.underlying26 j1 J2.out J3.out .i64 .i64 _ s.L.length (by rfl) (by rfl) rfl hb9 (by simp only [maxLen]; omega) (Nat.le_refl _) ?_
      intro w1 ho hg
      have HO := Lib.hid ho
      have hB1 : Below w.heap.size w w1 := (Below.refl _ _).grown hg (Nat.le_refl _) (fun b hb => by cases hb)
      have HB1 := Lib.hid hB1
      have c0' := (hB1.cell (p := ⟨t, 0, none⟩) hz).trans c0
      have r1' := (hB1.cell (p := ⟨g, m * 2 + 1, none⟩) gz).trans r1
      clear ho hg hB1
      )
    clear c0 r1 c1 f0 f1
    go_loopw [4, 5] (fun l n wr => OrdRel w s l n wr) (fun l _ _ => s.L.length - sliceLen l)
    case atStart => exact ⟨0, 0, _, _, Nat.zero_le _, rfl, rfl, rfl, HO.out, HB1.out⟩
    case round =>
      obtain ⟨k, j, A, c, hkl, hj, rfl, rfl, ho, hB⟩ := hrel
      have HO := Lib.hid ho
      have HB := Lib.hid hB
      have HJ := Lib.hid hj
      have HR := Lib.hid (HA.out.keep hB)
      have zr := hB.size
      obtain ⟨c0, -, -, -, hz⟩ := HR.out.head
      have hjk : j = k := by rw [hj, List.length_take]; omega
      clear ho hB hj c0' r1'
      subst hjk
      by_cases hlt : j < s.L.length
      · have hr := ring_in (s := s) hlt
        have hlt' := HK.out.lt _ (List.getElem_mem hlt)
        obtain ⟨-, r1, -, -⟩ := HR.out.at s.L[j] (by omega)
        rw [HG.out j hlt] at r1
        have HT : Hid (s.L.take (j + 1) = s.L.take j ++ [s.L[j]]) := Lib.hid (by rw [List.take_append_getElem hlt])
        rw [hr]
        have gz1 := (HR.out.2.lt g rfl).2
        generalize s.L[j] = x at r1 HT hlt' hr
        have t1 : ((x : Int) == (m : Int)) = false := by have := HM.out; simp; omega
        have k2 : (x : Int) < (s.n : Int) := by omega
        clear hr hlt'
        go_wp2_with (
          at_builtin
          refine Kd.wpList_one KN_ty rfl (.tmp 35) (.tmp 37) rfl w.heap.size _ j (s.L.take j) HJ.out (by rfl) (HO.out.alloc _) wr.heap.size x (by rfl) (hp_new rfl) (by omega) (by simp; omega) ?_
          intro A' c' w3 hG
          have HG3 := Lib.hid hG
          have b3 : Below w.heap.size w w3 := (HB.out.alloc (by omega) _).trans hG.2.2.2
          have B3 := Lib.hid b3
          have HR3 := Lib.hid (HA.out.keep b3)
          obtain ⟨c0', -, -, -, hz'⟩ := HR3.out.head
          have r1' : w3.cell? ⟨g, x * 2 + 1, none⟩ = some (.int .i64 (s.ring (j + 1) : Int)) := by
            have h1 := (HB.out.cell (p := ⟨g, x * 2 + 1, none⟩) gz).symm.trans r1
            exact (b3.cell (p := ⟨g, x * 2 + 1, none⟩) gz).trans h1
          clear hG b3
          )
        go_roundw
        case rel =>
          refine ⟨j + 1, j + 1, A', c', by omega, by rw [HT.out]; simp; omega, rfl, rfl, ?_, B3.out⟩
          rw [HT.out]
          exact HG3.out.1
        case measure => simp [sliceLen]; omega
      · have hkl' : j = s.L.length := by omega
        subst hkl'
        have HE2 := HE.out
        have t1 : ((m : Int) == (m : Int)) = true := by simp
        rw [HE2]
        clear HE2
        go_wp2
        go_ret
        have hj2 : s.L.take s.L.length = s.L := List.take_of_length_le (Nat.le_refl _)
        have ho := HO.out
        rw [hj2] at ho
        exact ⟨A, c, rfl, ho, HB.out⟩

end Go.Proofs.Ytkkjdpmkiedbiaa
