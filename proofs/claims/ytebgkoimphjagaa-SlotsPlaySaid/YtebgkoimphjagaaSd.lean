/-
  What Used of package slots returns. Condition: the places lie at the pointer's block.
-/
import Derived.Test.YtebgkoimphjagaaSc
namespace Go.Proofs.Ytebgkoimphjagaa
open Go.RowKit
set_option maxRecDepth 100000

/-- A fresh row of numbers. -/
def NatsPost (w : World) (l : List Nat) (e : Ending) (w' : World) : Prop := ∃ A c, e = .returned (.slice A l.length c) ∧ w'.ownsRow w.heap.size 3 1 (.slice A l.length c) l.length (KN.row l) ∧ Below w.heap.size w w'
/-- At the head of a round of Used. -/
def UsedRel (w : World) (s : Sl) (l n : Value) (wr : World) : Prop := ∃ (k m : Nat) (A : Option Addr) (c : Nat), k ≤ s.pl.length ∧ n = .int .i64 k ∧ m = (s.usedK k).length ∧ l = .slice A m c ∧ wr.ownsRow w.heap.size 3 1 l m (KN.row (s.usedK k)) ∧ Below w.heap.size w wr

set_option maxHeartbeats 1000000 in
theorem slused_any (w : World) (t : Nat) (S : Nat → Prop) (s : Sl) (h : SlS w t S s) (hk : s.Ok) :
    Calls Try.prog 19 #[.pointer (some ⟨t, 0, none⟩)] w (NatsPost w s.used) := by
  have HS := Lib.hid h
  obtain ⟨vP, vF, rfl, h⟩ := h
  obtain ⟨c0, c1, c2, -⟩ := h.head
  obtain ⟨⟨A, c, rfl, -⟩, -⟩ := h.vals
  have b1 := hk.most
  have b2 := hk.pl
  clear h hk
  go_enter Try.func19, Try.ntmps19
  go_wp2_with fail
  go_loopw [3, 12] (fun l n wr => UsedRel w s l n wr) (fun _ n _ => s.pl.length - (intOf n).toNat)
  case atStart => exact ⟨0, 0, _, _, Nat.zero_le _, rfl, rfl, rfl, World.ownsRow_nil _ _ _ _, Below.refl _ _⟩
  case round =>
    obtain ⟨k, m, B, d, hkl, rfl, hm, rfl, ho, hB⟩ := hrel
    have HO := Lib.hid ho
    have HM := Lib.hid hm
    have hm9 := usedK_le s k
    rw [← hm] at hm9
    have hz := hB.size
    clear ho hm
    by_cases hlt : k < s.pl.length
    · have t1 : decide ((k : Int) < (s.pl.length : Int)) = true := by simp; omega
      have hc := slhas_any _ t _ s (HS.out.keep hB) k
      rw [has_nat] at hc
      have HC := Lib.hid hc
      have HU := Lib.hid (usedK_succ s k)
      clear hc
      cases hy : (s.atN k).is
      · rw [hy] at HC HU
        go_wp2_with fail
        refine HC.out.mono ?_
        rintro e w1 ⟨rfl, rfl⟩
        go_wp2
        go_roundw
        case rel => exact ⟨k + 1, m, B, d, by omega, by go_num, by rw [HU.out]; exact HM.out, rfl, by rw [HU.out]; exact HO.out, hB⟩
        case measure => simp [intOf]; omega
      · rw [hy] at HC HU
        go_wp2_with fail
        refine HC.out.mono ?_
        rintro e w1 ⟨rfl, rfl⟩
        go_wp2_with (
          at_builtin
          refine Kd.wpList_one KN_ty rfl (.tmp 18) (.tmp 20) rfl w.heap.size _ m (s.usedK k) HM.out (by rfl) (HO.out.alloc _) wr.heap.size k (by rfl) (hp_new rfl) (by omega) (by simp; omega) ?_
          intro A' c' w3 hG
          have HG := Lib.hid hG
          clear hG
          )
        go_roundw
        case rel =>
          refine ⟨k + 1, m + 1, A', c', by omega, by go_num, by rw [HU.out]; simp [HM.out], rfl, ?_, ?_⟩
          · rw [HU.out]
            exact HG.out.1
          · exact (hB.trans ((Below.refl _ _).alloc hz _)).trans HG.out.2.2.2
        case measure => simp [intOf]; omega
    · have hkl' : k = s.pl.length := by omega
      subst hkl'
      have t1 : decide ((s.pl.length : Int) < (s.pl.length : Int)) = false := by simp
      go_wp2
      go_ret
      have hm8 : m = s.used.length := HM.out
      subst hm8
      exact ⟨_, _, rfl, HO.out, hB⟩

end Go.Proofs.Ytebgkoimphjagaa
