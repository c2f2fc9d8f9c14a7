/-
  What next, Take, Give of package slots do. Condition: the places lie at the pointer's block.
-/
import Derived.Test.YtebgkoimphjagaaSb
import Derived.Deep.DeepCutAuto
namespace Go.Proofs.Ytebgkoimphjagaa
open Go.RowKit
set_option maxRecDepth 100000

theorem KN_cut {w : World} {base g cap n m : Nat} {e : TypeId} {l : List Nat} (h : w.ownsRow base e 1 (.slice (some ⟨g, 0, none⟩) n cap) n (KN.row l)) (hn : n = l.length) (hm : m ≤ n) : w.ownsRow base e 1 (.slice (some ⟨g, 0, none⟩) m cap) m (KN.row (l.take m)) := by
  subst hn
  have := own_cut h hm
  have e : (KN.row l).take m = KN.row (l.take m) := by
    have e1 : l = l.take m ++ l.drop m := (List.take_append_drop m l).symm
    have e2 : KN.row l = KN.row (l.take m) ++ KN.row (l.drop m) := by rw [← KN.row_append, ← e1]
    have e3 : (KN.row (l.take m)).length = m := by rw [KN.row_len, List.length_take]; simp only [KN]; omega
    rw [e2]
    rw [List.take_append_of_le_length (by omega), List.take_of_length_le (by omega)]
  rw [e] at this
  exact this

set_option maxHeartbeats 1000000 in
theorem slnext_any (w : World) (t : Nat) (S : Nat → Prop) (s : Sl) (h : SlS w t S s) (hk : s.Ok) :
    Calls Try.prog 23 #[.pointer (some ⟨t, 0, none⟩)] w (SlPost t S w s.out (.tuple #[.int .i64 s.tookI, .bool s.took])) := by
  obtain ⟨vP, vF, rfl, h⟩ := h
  obtain ⟨c0, c1, c2, f0, f1, f2, hz⟩ := h.head
  obtain ⟨⟨A, c, hvP, hlc⟩, F, d, hvF, hfd⟩ := h.vals
  have k1 := hk.most
  have k2 := hk.pl
  have k3 := hk.frLe
  have HT := Lib.hid h
  clear h hk
  by_cases hf : s.fr = []
  · have e1 : s.fr.length = 0 := by rw [hf]; rfl
    rw [e1] at hvF
    subst hvF
    by_cases hm : s.pl.length = s.most
    · have HE : Hid (s.out = s ∧ s.tookI = 0 ∧ s.took = false) := Lib.hid (by
        unfold Sl.out Sl.tookI Sl.took Sl.nxt
        simp [hf, hm])
      have t1 : ((s.pl.length : Int) == (s.most : Int)) = true := by simp [hm]
      subst hvP
      clear hf e1 hm k3
      go_enter Try.func23, Try.ntmps23
      go_wp2_with fail
      go_quiet (fail)
      go_wp2
      go_ret2
      rw [HE.out.1, HE.out.2.1, HE.out.2.2]
      exact ⟨rfl, _, ⟨_, _, rfl, HT.out.keep (below_drewN (Below.refl _ _) _)⟩, frm_of_below (below_drewN (Below.refl _ _) _), Sub.refl _ _⟩
    · have HE : Hid (s.out = { s with pl := s.pl ++ [plz] } ∧ s.tookI = s.pl.length ∧ s.took = true) := Lib.hid (by
        unfold Sl.out Sl.tookI Sl.took Sl.nxt
        simp [hf, hm])
      have t1 : ((s.pl.length : Int) == (s.most : Int)) = false := by simp; omega
      subst hvP
      clear hf e1 hm k3
      go_enter Try.func23, Try.ntmps23
      go_wp2_with fail
      go_quiet (fail)
      generalize hW : w.drewN _ = W
      have hB : Below w.heap.size w W := by subst hW; exact below_drewN (Below.refl _ _) _
      have HT1 := Lib.hid (HT.out.keep hB)
      have c1' := (hB.cell (p := ⟨t, 1, none⟩) hz).trans c1
      have f1' := (hB.frozen (p := ⟨t, 1, none⟩) hz).trans f1
      have hz1 : t < W.heap.size := Nat.lt_of_lt_of_le hz hB.size
      clear c0 c1 c2 f0 f1 f2 hW hz
      go_wp2_with (
        at_builtin
        refine Kd.wpList_one KPl_ty rfl (.tmp 47) (.tmp 49) rfl 0 _ s.pl.length s.pl rfl (by rfl) (HT1.out.2.1.alloc _) W.heap.size plz (by rfl) (hp_new rfl) (by omega) (Nat.zero_le _) ?_
        intro A' c' w3 hG
        have cA : w3.cell? ⟨t, 1, none⟩ = some (.slice A s.pl.length c) := (World.cell?_of_block (hG.2.1.block t (by simp; omega) (fun e => HT1.out.apart.1 e.symm))).trans ((cell_lt hz1).trans c1')
        have fA : w3.frozen? ⟨t, 1, none⟩ = false := (World.frozen?_of_block (hG.2.1.block t (by simp; omega) (fun e => HT1.out.apart.1 e.symm))).trans ((World.frozen?_of_block (Below.heap_alloc _ _ _ hz1)).trans f1')
        have HN := Lib.hid ((HT1.out.keep (by go_grown)).newP hG rfl (by simp))
        clear hG
        )
      go_ret2
      rw [HE.out.1, HE.out.2.1, HE.out.2.2]
      obtain ⟨n1, n2, n3⟩ := HN.out
      refine ⟨by simp, _, ⟨_, _, rfl, n1⟩, ?_, ?_⟩
      · exact (frm_of_below (below_of hB (by go_grown))).trans n2 (Sub.refl _ _)
      · intro b hb
        refine (n3 b hb).imp id (fun h => ?_)
        have := hB.size
        simp at h
        omega
  · obtain ⟨fr', i, hfr⟩ : ∃ fr' i, s.fr = fr' ++ [i] := ⟨s.fr.dropLast, s.fr.getLast hf, (List.dropLast_concat_getLast hf).symm⟩
    have e1 : s.fr.length = fr'.length + 1 := by rw [hfr]; simp
    have HE : Hid (s.out = { s with fr := fr' } ∧ s.tookI = i ∧ s.took = true) := by
      unfold Sl.out Sl.tookI Sl.took Sl.nxt
      simp only [hf, if_false]
      rw [hfr]
      refine ⟨by simp, by simp, rfl⟩
    obtain ⟨g, cap, hvF', hcp, gz, cl⟩ := HT.out.free fr'.length (by omega)
    have e2 : s.fr[fr'.length] = i := by simp [hfr]
    rw [e2] at cl
    have ho := HT.out.2.2
    subst hvF'
    rw [e1] at hvF hfd hcp ho
    have hN := HT.out.newF (w3 := w) (v' := .slice (some ⟨g, 0, none⟩) fr'.length cap) (n := fr'.length) (fr' := fr') (by
      have := KN_cut ho (by omega) (Nat.le_succ fr'.length)
      rw [hfr] at this
      simpa using this) (World.grownBy.refl w _) (.inl rfl) rfl
    have HN := Lib.hid hN
    rw [e1] at c2
    have hl9 : fr'.length ≤ 1024 := by omega
    clear k3 hf e1 hfr ho hN e2 hvP hlc hvF hfd k1 k2
    go_enter Try.func23, Try.ntmps23
    go_wp2
    go_ret2
    obtain ⟨n1, n2, n3⟩ := HN.out
    rw [HE.out.1, HE.out.2.1, HE.out.2.2]
    exact ⟨rfl, _, ⟨_, _, rfl, n1⟩, n2, n3⟩

set_option maxHeartbeats 1000000 in
theorem sltake_any (w : World) (t : Nat) (S : Nat → Prop) (s : Sl) (h : SlS w t S s) (hk : s.Ok) (x : Int) :
    Calls Try.prog 11 #[.pointer (some ⟨t, 0, none⟩), .int .i64 x] w (SlPost t S w (s.take x) (.tuple #[.int .i64 s.tookI, .bool s.took])) := by
  have HC := Lib.hid (slnext_any w t S s h hk)
  have HK := Lib.hid hk
  clear h hk
  cases ht : s.took
  · have HE : Hid (s.take x = s.out) := Lib.hid (by
      unfold Sl.took at ht
      have e : s.nxt = none := by simpa using ht
      unfold Sl.take
      rw [e]
      unfold Sl.nxt at e
      unfold Sl.out
      split at e
      · split at e
        · rename_i h1 h2; rw [if_pos h1, if_pos h2]
        · cases e
      · cases e)
    rw [ht] at HC
    clear ht
    go_enter Try.func11, Try.ntmps11
    go_wp2_with fail
    refine HC.out.mono ?_
    rintro e w1 ⟨rfl, S1, g1, g2, g3⟩
    have G1 := Lib.hid g1
    have G2 := Lib.hid g2
    have G3 := Lib.hid g3
    clear g1 g2 g3
    go_wp2
    go_ret2
    rw [HE.out]
    exact ⟨rfl, _, G1.out, G2.out, G3.out⟩
  · obtain ⟨i, hi⟩ : ∃ i, s.nxt = some i := Option.isSome_iff_exists.1 ht
    have HE : Hid (s.take x = s.out.set i ⟨x, true⟩) := Lib.hid (by unfold Sl.take; rw [hi])
    have hI : s.tookI = (i : Int) := by unfold Sl.tookI; rw [hi]; rfl
    have hlt := nxt_lt HK.out hi
    rw [ht, hI] at HC
    rw [hI]
    clear ht hi hI
    go_enter Try.func11, Try.ntmps11
    go_wp2_with fail
    refine HC.out.mono ?_
    rintro e w1 ⟨rfl, S1, ⟨vP, vF, rfl, g1⟩, g2, g3⟩
    obtain ⟨c0, c1, c2, -⟩ := g1.head
    obtain ⟨g, c', rfl, gz, gt, c3, c4, f3⟩ := g1.place i hlt
    have G1 := Lib.hid g1
    have G2 := Lib.hid g2
    have G3 := Lib.hid g3
    have e1 := f3 (i * 2)
    have e2 := f3 (i * 2 + 1)
    have HN := Lib.hid (g1.put2 rfl i hlt ⟨x, true⟩)
    generalize s.out.pl[i] = y at c3 c4
    clear g1 g2 g3 f3
    go_wp2
    go_ret2
    rw [HE.out]
    exact ⟨rfl, _, ⟨_, _, rfl, HN.out.1⟩, G2.out.trans HN.out.2 G3.out, G3.out⟩

set_option maxHeartbeats 1000000 in
theorem slgive_any (w : World) (t : Nat) (S : Nat → Prop) (s : Sl) (h : SlS w t S s) (hk : s.Ok) (i : Int) :
    Calls Try.prog 13 #[.pointer (some ⟨t, 0, none⟩), .int .i64 i] w (SlPost t S w (s.give i) (.bool (s.has i))) := by
  have hc := slhas_any w t S s h i
  obtain ⟨vP, vF, rfl, h⟩ := h
  obtain ⟨c0, c1, c2, f0, f1, f2, hz⟩ := h.head
  have HT := Lib.hid h
  cases hh : s.has i
  · rw [hh] at hc
    have HE : Hid (s.give i = s) := Lib.hid (by unfold Sl.give; rw [if_neg (by simp [hh])])
    have HC := Lib.hid hc
    clear h hc hh hk
    go_enter Try.func13, Try.ntmps13
    go_wp2_with fail
    refine HC.out.mono ?_
    rintro e w1 ⟨rfl, rfl⟩
    go_wp2
    go_ret
    rw [HE.out]
    exact ⟨rfl, _, ⟨_, _, rfl, HT.out⟩, Frm.refl _ _, Sub.refl _ _⟩
  · rw [hh] at hc
    obtain ⟨i0, i1, i2⟩ := has_bd hh
    obtain ⟨k, rfl⟩ := Int.eq_ofNat_of_zero_le i0
    rw [Int.toNat_natCast] at i1 i2
    obtain ⟨⟨A, c, hvP, hlc⟩, F, d, hvF, hfd⟩ := h.vals
    obtain ⟨g, c', rfl, gz, gt, c3, c4, f3⟩ := h.place k i1
    have k1 := hk.most
    have k2 := hk.pl
    have k3 := hk.frLe
    have hn := h.put2 rfl k i1 plz
    have HN := Lib.hid hn.1
    have HNF := Lib.hid hn.2
    have HE : Hid (s.give (k : Int) = { s with pl := s.pl.set k plz, fr := s.fr ++ [k] }) := Lib.hid (by unfold Sl.give; rw [if_pos hh]; rfl)
    have HC := Lib.hid hc
    have e1 := f3 (k * 2)
    have e2 := f3 (k * 2 + 1)
    obtain ⟨c0', c1', c2', f0', f1', f2', hz'⟩ := hn.1.head
    generalize hW : (w.setCell ⟨g, k * 2, none⟩ (.int .i64 plz.x)).setCell ⟨g, k * 2 + 1, none⟩ (.bool plz.is) = W at HN HNF c0' c1' c2' f0' f1' f2' hz'
    have HW : Hid (_ = W) := Lib.hid hW
    generalize s.pl[k] = y at c3 c4
    subst hvF
    clear h hc hh i2 hk f3 hn hvP hW
    go_enter Try.func13, Try.ntmps13
    go_wp2_with fail
    refine HC.out.mono ?_
    rintro e w1 ⟨rfl, rfl⟩
    go_upto_region 4 with fail
    simp only [show (0 : Int) = plz.x from rfl, show false = plz.is from rfl, HW.out]
    go_wp2_with (
      at_builtin
      refine Kd.wpList_one KN_ty rfl (.tmp 20) (.tmp 22) rfl 0 _ s.fr.length s.fr rfl (by rfl) (HN.out.2.2.alloc _) W.heap.size k (by rfl) (hp_new rfl) (by omega) (Nat.zero_le _) ?_
      intro A' c2 w3 hG
      have cA : w3.cell? ⟨t, 2, none⟩ = some (.slice F s.fr.length d) := (World.cell?_of_block (hG.2.1.block t (by simp; omega) (fun e => HN.out.apart.2.1 e.symm))).trans ((cell_lt hz').trans c2')
      have fA : w3.frozen? ⟨t, 2, none⟩ = false := (World.frozen?_of_block (hG.2.1.block t (by simp; omega) (fun e => HN.out.apart.2.1 e.symm))).trans ((World.frozen?_of_block (Below.heap_alloc _ _ _ hz')).trans f2')
      have HN2 := Lib.hid ((HN.out.keep (by go_grown)).newF hG.1 hG.2.1 hG.2.2.1 (by simp))
      clear hG
      )
    go_ret
    rw [HE.out]
    obtain ⟨n1, n2, n3⟩ := HN2.out
    refine ⟨rfl, _, ⟨_, _, rfl, n1⟩, ?_, ?_⟩
    · exact (HNF.out.then (by go_grown)).trans n2 (Sub.refl _ _)
    · intro b hb
      refine (n3 b hb).imp id (fun h => ?_)
      have := HNF.out.size
      simp at h
      omega

end Go.Proofs.Ytebgkoimphjagaa
