/-
  What New, has, At, Len, Cap, Swap of package slots do. Condition: the places lie at the pointer's block.
-/
import Derived.Test.YtebgkoimphjagaaSa
import Derived.Deep.RegionHeld3
namespace Go.Proofs.Ytebgkoimphjagaa
open Go.RowKit
set_option maxRecDepth 100000

theorem info_plc : (Try.prog.info? 55).map (fun i => (i.zero, i.size, i.bytes)) = some (some (.agg #[.int .i64 0, .bool false]), 2, 16) := by kernel_rfl
theorem KPl_ty : KPl.Ty 55 44 := Kd.ty_of info_plc (by omega) rfl Try.underlying44
theorem KN_ty : KN.Ty 3 26 := Kd.ty_of info_int (by omega) rfl Try.underlying26
/-- Places were made, or changed. -/
def SlPost (t : Nat) (S : Nat → Prop) (w : World) (s' : Sl) (v : Value) (e : Ending) (w' : World) : Prop := e = .returned v ∧ ∃ S', SlS w' t S' s' ∧ Frm S w w' ∧ Sub S S' w.heap.size

def SlNew (m : Int) (w : World) (e : Ending) (w' : World) : Prop := ∃ t S, e = .returned (.pointer (some ⟨t, 0, none⟩)) ∧ SlS w' t S (Sl.new m) ∧ Below w.heap.size w w' ∧ ∀ b, S b → w.heap.size ≤ b
set_option maxHeartbeats 400000 in
theorem slnew_any (m : Int) (w : World) : Calls Try.prog 9 #[.int .i64 m] w (SlNew m w) := by
  have e0 : ((Sl.new m).most : Int) = min (max m 0) 1024 := by simp only [Sl.new]; omega
  have HE := Lib.hid e0
  clear e0
  go_enter Try.func9, Try.ntmps9
  go_wp2
  all_goals
    go_ret
    refine ⟨w.heap.size, foot w.heap.size (.slice none 0 0) (.slice none 0 0), rfl, ⟨_, _, rfl, ?_, World.ownsRow_nil _ _ _ _, World.ownsRow_nil _ _ _ _⟩, by go_grown, ?_⟩
    · rw [HE.out]
      refine (hp_new rfl).trans ?_
      simp only [Option.some.injEq, Obj.cells.injEq, and_true, Array.mk.injEq, List.cons.injEq, Value.int.injEq, true_and]
      omega
    · rintro b (rfl | hb | hb)
      · exact Nat.le_refl _
      · simp [Value.ownBlock] at hb
      · simp [Value.ownBlock] at hb

set_option maxHeartbeats 400000 in
theorem slcap_any (w : World) (t : Nat) (S : Nat → Prop) (s : Sl) (h : SlS w t S s) : Calls Try.prog 21 #[.pointer (some ⟨t, 0, none⟩)] w fun e w' => e = .returned (.int .i64 s.most) ∧ w = w' := by
  obtain ⟨vP, vF, rfl, h⟩ := h
  obtain ⟨c0, c1, c2, -⟩ := h.head
  clear h
  go_enter Try.func21, Try.ntmps21
  go_wp2
  go_ret
  exact ⟨rfl, rfl⟩
set_option maxHeartbeats 400000 in
theorem sllen_any (w : World) (t : Nat) (S : Nat → Prop) (s : Sl) (h : SlS w t S s) (hk : s.Ok) : Calls Try.prog 20 #[.pointer (some ⟨t, 0, none⟩)] w fun e w' => e = .returned (.int .i64 s.len) ∧ ∃ n, w' = w.drewN n := by
  obtain ⟨vP, vF, rfl, h⟩ := h
  obtain ⟨c0, c1, c2, -⟩ := h.head
  obtain ⟨⟨A, c, rfl, -⟩, B, d, rfl, -⟩ := h.vals
  have b1 := hk.most
  have b2 := hk.pl
  have b3 := hk.frLe
  have HE : Hid (s.len = (s.pl.length : Int) - s.fr.length) := Lib.hid rfl
  clear h hk
  go_enter Try.func20, Try.ntmps20
  go_wp2_with fail
  go_quiet (fail)
  go_wp2
  go_ret
  rw [HE.out]
  exact ⟨rfl, _, rfl⟩
set_option maxHeartbeats 400000 in
theorem slhas_any (w : World) (t : Nat) (S : Nat → Prop) (s : Sl) (h : SlS w t S s) (i : Int) : Calls Try.prog 25 #[.pointer (some ⟨t, 0, none⟩), .int .i64 i] w fun e w' => e = .returned (.bool (s.has i)) ∧ w = w' := by
  obtain ⟨vP, vF, rfl, h⟩ := h
  obtain ⟨c0, c1, c2, -⟩ := h.head
  obtain ⟨⟨A, c, rfl, -⟩, -⟩ := h.vals
  cases h0 : decide (0 ≤ i)
  · have HE : Hid (s.has i = false) := Lib.hid (by unfold Sl.has; rw [h0]; rfl)
    clear h
    go_enter Try.func25, Try.ntmps25
    go_wp2
    go_ret
    rw [HE.out]
    exact ⟨rfl, rfl⟩
  · have i0 : 0 ≤ i := of_decide_eq_true h0
    cases h1 : decide (i < (s.pl.length : Int))
    · have HE : Hid (s.has i = false) := Lib.hid (by unfold Sl.has; rw [h0, h1]; rfl)
      clear h
      go_enter Try.func25, Try.ntmps25
      go_wp2
      go_ret
      rw [HE.out]
      exact ⟨rfl, rfl⟩
    · obtain ⟨k, rfl⟩ := Int.eq_ofNat_of_zero_le i0
      have i1 : k < s.pl.length := by simpa using h1
      obtain ⟨g, c', e, -, -, -, c4, -⟩ := h.place k i1
      simp only [Value.slice.injEq, true_and] at e
      obtain ⟨rfl, rfl⟩ := e
      have HE : Hid (s.has (k : Int) = s.pl[k].is) := Lib.hid (by rw [has_nat, atN_in s k i1])
      generalize s.pl[k].is = y at c4 HE
      clear h
      go_enter Try.func25, Try.ntmps25
      go_wp2
      go_ret
      rw [HE.out]
      exact ⟨rfl, rfl⟩
set_option maxHeartbeats 400000 in
theorem slat_any (w : World) (t : Nat) (S : Nat → Prop) (s : Sl) (h : SlS w t S s) (i : Int) : Calls Try.prog 18 #[.pointer (some ⟨t, 0, none⟩), .int .i64 i] w fun e w' => e = .returned (.tuple #[.int .i64 (s.at i), .bool (s.has i)]) ∧ w = w' := by
  have hc := slhas_any w t S s h i
  obtain ⟨vP, vF, rfl, h⟩ := h
  obtain ⟨c0, c1, c2, -⟩ := h.head
  cases hh : s.has i
  · rw [hh] at hc
    have HE : Hid (s.at i = 0) := Lib.hid (by unfold Sl.at; rw [if_neg (by simp [hh])])
    have HC := Lib.hid hc
    clear h hc hh
    go_enter Try.func18, Try.ntmps18
    go_wp2_with fail
    refine HC.out.mono ?_
    rintro e w1 ⟨rfl, rfl⟩
    go_wp2
    go_ret2
    rw [HE.out]
    exact ⟨rfl, rfl⟩
  · rw [hh] at hc
    obtain ⟨i0, i1, -⟩ := has_bd hh
    obtain ⟨k, rfl⟩ := Int.eq_ofNat_of_zero_le i0
    rw [Int.toNat_natCast] at i1
    obtain ⟨g, c', rfl, -, -, c3, -, -⟩ := h.place k i1
    have HE : Hid (s.at (k : Int) = s.pl[k].x) := Lib.hid (by unfold Sl.at; rw [if_pos hh, Int.toNat_natCast, atN_in s k i1])
    have HC := Lib.hid hc
    generalize s.pl[k].x = y at c3 HE
    clear h hc hh
    go_enter Try.func18, Try.ntmps18
    go_wp2_with fail
    refine HC.out.mono ?_
    rintro e w1 ⟨rfl, rfl⟩
    go_wp2
    go_ret2
    rw [HE.out]
    exact ⟨rfl, rfl⟩
set_option maxHeartbeats 400000 in
theorem slswap_any (w : World) (t : Nat) (S : Nat → Prop) (s : Sl) (h : SlS w t S s) (i x : Int) : Calls Try.prog 15 #[.pointer (some ⟨t, 0, none⟩), .int .i64 i, .int .i64 x] w (SlPost t S w (s.swap i x) (.bool (s.has i))) := by
  have hc := slhas_any w t S s h i
  obtain ⟨vP, vF, rfl, h⟩ := h
  obtain ⟨c0, c1, c2, -⟩ := h.head
  have HT := Lib.hid h
  cases hh : s.has i
  · rw [hh] at hc
    have HE : Hid (s.swap i x = s) := Lib.hid (by unfold Sl.swap; rw [if_neg (by simp [hh])])
    have HC := Lib.hid hc
    clear h hc hh
    go_enter Try.func15, Try.ntmps15
    go_wp2_with fail
    refine HC.out.mono ?_
    rintro e w1 ⟨rfl, rfl⟩
    go_wp2
    go_ret
    rw [HE.out]
    exact ⟨rfl, _, ⟨_, _, rfl, HT.out⟩, Frm.refl _ _, Sub.refl _ _⟩
  · rw [hh] at hc
    obtain ⟨i0, i1, i2⟩ := has_bd hh
    obtain ⟨k, rfl⟩ := Int.eq_ofNat_of_zero_le i0
    rw [Int.toNat_natCast] at i1 i2
    obtain ⟨g, c', rfl, gz, gt, c3, c4, f3⟩ := h.place k i1
    rw [atN_in s k i1] at i2
    have HN := Lib.hid (HT.out.stored rfl k 0 i1 (by omega) ⟨x, true⟩ (.int .i64 x) (by simp [plE, i2]))
    have HE : Hid (s.swap (k : Int) x = { s with pl := s.pl.set k ⟨x, true⟩ }) := Lib.hid (by unfold Sl.swap; rw [if_pos hh]; rfl)
    have HC := Lib.hid hc
    clear h hc hh i2 c4
    have f0 := f3 (k * 2)
    clear f3
    go_enter Try.func15, Try.ntmps15
    go_wp2_with fail
    refine HC.out.mono ?_
    rintro e w1 ⟨rfl, rfl⟩
    go_wp2
    go_ret
    rw [HE.out]
    refine ⟨rfl, _, ⟨_, _, rfl, HN.out⟩, (Frm.refl _ _).setCell (p := ⟨g, k * 2, none⟩) (.inl (.inr (.inl rfl))) _, Sub.refl _ _⟩

end Go.Proofs.Ytebgkoimphjagaa
