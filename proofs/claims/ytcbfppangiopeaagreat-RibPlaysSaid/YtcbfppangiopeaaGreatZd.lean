/-
  What take, grow and Put of package trie do. Condition: the tree lies at the pointer's block.
-/
import Derived.Test.YtcbfppangiopeaaGreatZc
namespace Go.Proofs.YtcbfppangiopeaaGreat
open Go.RowKit
set_option maxRecDepth 100000

theorem info_nd : (Tryz.prog.info? 120).map (fun i => (i.zero, i.size, i.bytes)) = some (some (.agg #[.int .i64 0, .int .i64 0, .bool false, .int .i64 0]), 4, 32) := by kernel_rfl

def takeI (T : Tr) : Nat := if T.fr = [] then T.ar.length else T.fr.getLastD 0
def takeT (T : Tr) : Tr := if T.fr = [] then { T with ar := T.ar ++ [nd0] } else { T with fr := T.fr.dropLast }
/-- A tree was changed. -/
def TPost (t : Nat) (S : Nat → Prop) (w : World) (T' : Tr) (v : Value) (e : Ending) (w' : World) : Prop := e = .returned v ∧ ∃ S', TrS w' t S' T' ∧ Frm S w w' ∧ Sub S S' w.heap.size

/-- Its blocks are unlike. -/
theorem TrA.apart {w : World} {t : Nat} {vA vF : Value} {T : Tr} (h : TrA w t vA vF T) : vA.ownBlock ≠ some t ∧ vF.ownBlock ≠ some t ∧ ∀ b, vA.ownBlock = some b → vF.ownBlock ≠ some b := by
  refine ⟨fun e => ?_, fun e => ?_, fun b e1 e2 => ?_⟩
  · obtain ⟨cur, hc⟩ := own_heap h.2.1 e
    rw [h.1] at hc
    simp at hc
  · obtain ⟨cur, hc⟩ := own_heap h.2.2 e
    rw [h.1] at hc
    simp at hc
  · obtain ⟨cur, hc⟩ := own_heap h.2.1 e1
    obtain ⟨cur', hc'⟩ := own_heap h.2.2 e2
    rw [hc] at hc'
    simp at hc'
/-- Its nodes lie elsewhere, or are more. -/
theorem TrA.newA {w w3 : World} {t : Nat} {vA vF : Value} {T : Tr} {g cap m : Nat} {ar' : List Nd} (h : TrA w t vA vF T) (hg : w.grownBy w3 vA.ownBlock) (ho : w3.ownsRow 0 120 4 (.slice (some ⟨g, 0, none⟩) m cap) m (ndv ar')) (hm : m = ar'.length) (hat : vA.ownBlock = some g ∨ g = w.heap.size) :
    TrA (w3.setCell ⟨t, 0, none⟩ (.slice (some ⟨g, 0, none⟩) m cap)) t (.slice (some ⟨g, 0, none⟩) m cap) vF { T with ar := ar' } ∧ Frm (foot t vA vF) w (w3.setCell ⟨t, 0, none⟩ (.slice (some ⟨g, 0, none⟩) m cap)) ∧ Sub (foot t vA vF) (foot t (.slice (some ⟨g, 0, none⟩) m cap) vF) w.heap.size := by
  subst hm
  obtain ⟨a1, a2, a3⟩ := h.apart
  have hz := lt_of_block h.1
  have hgt : g ≠ t := by
    rcases hat with e | e
    · rintro rfl
      exact a1 e
    · omega
  refine ⟨⟨(row3 ((hg.block t hz (fun e => a1 e.symm)).trans h.1)).1, ?_, ?_⟩, ?_, ?_⟩
  · exact ownsRow_setCell_other ho (by simpa [Value.ownBlock] using hgt) _
  · exact ownsRow_setCell_other (own_other h.2.2 hg (fun b hb e => a3 b e hb)) (by simpa using a2) _
  · exact ((Frm.refl _ w).grown hg (fun k hk => .inl (.inr (.inl hk)))).setCell (.inl (.inl rfl)) _
  · rintro b (rfl | hb | hb)
    · exact .inl (.inl rfl)
    · simp [Value.ownBlock] at hb
      subst hb
      rcases hat with e | e
      · exact .inl (.inr (.inl e))
      · exact .inr (by omega)
    · exact .inl (.inr (.inr hb))
theorem TrA.newF {w w3 : World} {t : Nat} {vA vF : Value} {T : Tr} {g cap m : Nat} {fr' : List Nat} (h : TrA w t vA vF T) (hg : w.grownBy w3 vF.ownBlock) (ho : w3.ownsRow 0 3 1 (.slice (some ⟨g, 0, none⟩) m cap) m (ints fr')) (hm : m = fr'.length) (hat : vF.ownBlock = some g ∨ g = w.heap.size) :
    TrA (w3.setCell ⟨t, 1, none⟩ (.slice (some ⟨g, 0, none⟩) m cap)) t vA (.slice (some ⟨g, 0, none⟩) m cap) { T with fr := fr' } ∧ Frm (foot t vA vF) w (w3.setCell ⟨t, 1, none⟩ (.slice (some ⟨g, 0, none⟩) m cap)) ∧ Sub (foot t vA vF) (foot t vA (.slice (some ⟨g, 0, none⟩) m cap)) w.heap.size := by
  subst hm
  obtain ⟨a1, a2, a3⟩ := h.apart
  have hz := lt_of_block h.1
  have hgt : g ≠ t := by
    rcases hat with e | e
    · rintro rfl
      exact a2 e
    · omega
  refine ⟨⟨(row3 ((hg.block t hz (fun e => a2 e.symm)).trans h.1)).2.1, ?_, ?_⟩, ?_, ?_⟩
  · exact ownsRow_setCell_other (own_other h.2.1 hg (fun b hb e => a3 b hb e)) (by simpa using a1) _
  · exact ownsRow_setCell_other ho (by simpa [Value.ownBlock] using hgt) _
  · exact ((Frm.refl _ w).grown hg (fun k hk => .inl (.inr (.inr hk)))).setCell (.inl (.inl rfl)) _
  · rintro b (rfl | hb | hb)
    · exact .inl (.inl rfl)
    · exact .inl (.inr (.inl hb))
    · simp [Value.ownBlock] at hb
      subst hb
      rcases hat with e | e
      · exact .inl (.inr (.inr e))
      · exact .inr (by omega)
set_option maxHeartbeats 1000000 in
theorem take_any (w : World) (t : Nat) (S : Nat → Prop) (T : Tr) (h : TrS w t S T) (hW : Wf T) :
    Calls Tryz.prog 89 #[.pointer (some ⟨t, 0, none⟩)] w (TPost t S w (takeT T) (.int .i64 (takeI T))) := by
  obtain ⟨vA, vF, rfl, h⟩ := h
  obtain ⟨c0, c1, -, f0, f1, -, hz⟩ := h.head
  obtain ⟨A, c, hvA, hlc, hcm, hAz, hAt, -, -⟩ := h.arena (by have := hW.1; omega)
  obtain ⟨F, d, hvF, hfd⟩ := own_val h.2.2
  have w1 := hW.1
  have w2 := hW.2.1
  have HT := Lib.hid h
  have HW := Lib.hid hW
  clear h hW
  by_cases hf : T.fr = []
  · have e1 : T.fr.length = 0 := by rw [hf]; rfl
    have HE : Hid (takeI T = T.ar.length ∧ takeT T = { T with ar := T.ar ++ [nd0] }) := ⟨by unfold takeI; rw [if_pos hf], by unfold takeT; rw [if_pos hf]⟩
    rw [e1] at hvF
    subst hvF
    obtain ⟨i0, hi0, hz0, hz1, hz2⟩ := info_parts info_nd
    subst hvA
    clear hf e1
    go_enter Tryz.func89, Tryz.ntmps89
    go_wp2_with (
      at_builtin
      refine wpList_append_lies _ rfl (.tmp 17) (.tmp 19) _ rfl 0 120 i0 _ 4 32 Tryz.underlying97 hi0 hz0 hz1 hz2 rfl (by omega) _ T.ar.length (ndv T.ar) (by rfl) (HT.out.2.1.alloc _) ⟨w.heap.size, 0, none⟩ 1 1 (nd4 nd0) (by rfl) rfl (World.news_of_block (cs := (nd4 nd0).toArray) (hp_new rfl)) (nd4_cell _) (by omega) (by simp only [maxLen]; omega) (by omega) (Nat.zero_le _) _ rfl ?_
      intro g cap w3 hown1 hg1 hat1 hlt1
      rw [← ndv_one, ← ndv_append] at hown1
      have hN := (HT.out.keep (by go_grown)).newA hg1 hown1 (by simp) hat1
      have cA : w3.cell? ⟨t, 0, none⟩ = some (.slice (some ⟨A, 0, none⟩) T.ar.length c) := (World.cell?_of_block (hg1.block t (by simp; omega) (by simp [Value.ownBlock]; omega))).trans ((cell_lt hz).trans c0)
      have fA : w3.frozen? ⟨t, 0, none⟩ = false := (World.frozen?_of_block (hg1.block t (by simp; omega) (by simp [Value.ownBlock]; omega))).trans ((World.frozen?_of_block (Below.heap_alloc _ _ _ hz)).trans f0)
      have HN := Lib.hid hN
      have w9 : g < w3.heap.size := hlt1
      clear hN hown1 hg1 hat1 hlt1
      )
    go_ret
    obtain ⟨n1, n2, n3⟩ := HN.out
    rw [HE.out.1, HE.out.2]
    refine ⟨by simp, _, ⟨_, _, rfl, n1⟩, ?_, ?_⟩
    · exact (frm_of_below (by go_grown)).trans n2 (Sub.refl _ _)
    · intro b hb
      exact (n3 b hb).imp id (fun h => by simp at h; omega)
  · obtain ⟨fr', i, hfr⟩ : ∃ fr' i, T.fr = fr' ++ [i] := ⟨T.fr.dropLast, T.fr.getLast hf, (List.dropLast_concat_getLast hf).symm⟩
    have e1 : T.fr.length = fr'.length + 1 := by rw [hfr]; simp
    obtain ⟨g, cap, hvF', -, hgz⟩ := HT.out.2.2.form (by omega)
    have HE : Hid (takeI T = i ∧ takeT T = { T with fr := fr' }) := ⟨by unfold takeI; rw [if_neg hf, hfr]; simp, by unfold takeT; rw [if_neg hf, hfr]; simp⟩
    have hfw := HW.out.2.2.2.2
    rw [e1] at hvF' hfw
    subst hvF'
    have ho := HT.out.2.2
    rw [e1] at ho
    have hcap : fr'.length + 1 ≤ cap := by
      obtain ⟨A', c', e, hc⟩ := own_val ho
      simp at e
      omega
    have cl : w.cell? ⟨g, fr'.length, none⟩ = some (.int .i64 (i : Int)) := by
      rw [ho.cellAt fr'.length (by omega), hfr]
      simp [ints]
    have hN := HT.out.newF (w3 := w) (g := g) (cap := cap) (m := fr'.length) (fr' := fr') (World.grownBy.refl w _) (by
      have := own_cut ho (Nat.le_succ fr'.length)
      rw [hfr] at this
      simpa [ints] using this) rfl (.inl rfl)
    have HN := Lib.hid hN
    clear hf hvF hfd e1 hfr ho hN
    go_enter Tryz.func89, Tryz.ntmps89
    go_wp2
    go_ret
    obtain ⟨n1, n2, n3⟩ := HN.out
    rw [HE.out.1, HE.out.2]
    exact ⟨rfl, _, ⟨_, _, rfl, n1⟩, n2, n3⟩

end Go.Proofs.YtcbfppangiopeaaGreat
