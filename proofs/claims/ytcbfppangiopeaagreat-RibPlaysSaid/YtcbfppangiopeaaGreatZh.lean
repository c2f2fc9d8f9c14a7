/-
  What Above of package trie returns. Condition: the tree lies at the pointer's block.
-/
import Derived.Test.YtcbfppangiopeaaGreatZg
import Derived.Test.YtcbfppangiopeaaGreatYp
namespace Go.Proofs.YtcbfppangiopeaaGreat
open Go.RowKit
set_option maxRecDepth 100000

/-- What Above's function keeps. -/
def AboveI (w : World) (t : Nat) (T : Tr) (p : Pf) (b : Nat) (k : Nat) (S : Nat → Prop) (wr : World) : Prop :=
  ∃ v, (S = fun x => x = b + 1 + 1 ∨ v.ownBlock = some x) ∧ Below b w wr ∧ TBox wr b t ∧ PBox wr (b + 1) p ∧ wr.heap[b + 1 + 1]? = some (.cells #[v] 95 (0, 0)) ∧ wr.ownsRow (b + 1 + 1 + 1) 90 5 v (aboveK T p k).length (prv (aboveK T p k))

/-- A list in a box grew by one. -/
theorem above_step {w0 w V1 w7 : World} {t b : Nat} (T : Tr) (p : Pf) (k : Nat) {v : Value} {y : Pr} {g7 cap7 : Nat} (h2 : w.ownsRow (b + 1 + 1 + 1) 90 5 v (aboveK T p k).length (prv (aboveK T p k))) (h1 : w.heap[b + 1 + 1]? = some (.cells #[v] 95 (0, 0))) (hTb : TBox w b t) (hP : PBox w (b + 1) p) (hB : Below b w0 w) (hA : aboveK T p (k + 1) = aboveK T p k ++ [y])
    (hV : Below w.heap.size w V1) (hg : V1.grownBy w7 v.ownBlock) (ho : w7.ownsRow (b + 1 + 1 + 1) 90 5 (.slice (some ⟨g7, 0, none⟩) ((aboveK T p k).length + 1) cap7) ((aboveK T p k).length + 1) (prv (aboveK T p k) ++ pr5 y)) (hat : v.ownBlock = some g7 ∨ g7 = V1.heap.size) :
    ∃ S', AboveI w0 t T p b (k + 1) S' (w7.setCell ⟨b + 1 + 1, 0, none⟩ (.slice (some ⟨g7, 0, none⟩) ((aboveK T p k).length + 1) cap7)) ∧ Frm (fun x => x = b + 1 + 1 ∨ v.ownBlock = some x) w (w7.setCell ⟨b + 1 + 1, 0, none⟩ (.slice (some ⟨g7, 0, none⟩) ((aboveK T p k).length + 1) cap7)) ∧ Sub (fun x => x = b + 1 + 1 ∨ v.ownBlock = some x) S' w.heap.size := by
  have z1 := lt_of_block h1
  have zV := hV.size
  have hge := own_ge h2
  have hge7 : b + 1 + 1 + 1 ≤ g7 := own_ge ho g7 rfl
  have hF : Frm (fun x => x = b + 1 + 1 ∨ v.ownBlock = some x) w w7 := (frm_of_below hV).grown hg (fun k hk => .inl (.inr hk))
  have hF' := hF.setCell (p := ⟨b + 1 + 1, 0, none⟩) (.inl (.inl rfl)) (.slice (some ⟨g7, 0, none⟩) ((aboveK T p k).length + 1) cap7)
  have hq : w7.heap[b + 1 + 1]? = some (.cells #[v] 95 (0, 0)) := (hg.block _ (by omega) (fun e => by have := hge _ e.symm; omega)).trans ((hV.block _ z1).trans h1)
  refine ⟨_, ⟨.slice (some ⟨g7, 0, none⟩) ((aboveK T p k).length + 1) cap7, rfl, ?_, ?_, ?_, one_setCell hq, ?_⟩, hF', ?_⟩
  · exact hB.trans (hF'.below (B := b) (fun x hx => by rcases hx with rfl | hx; omega; have := hge x hx; omega) (by omega))
  · exact (hF'.block b (by omega) (fun e => by rcases e with e | e; omega; have := hge b e; omega)).trans hTb
  · exact hP.frm hF' (fun e => by rcases e with e | e; omega; have := hge _ e; omega)
  · rw [hA, prv_append, prv_one, List.length_append]
    exact ownsRow_setCell_other ho (by simp [Value.ownBlock]; omega) _
  · rintro x (rfl | hx)
    · exact .inl (.inl rfl)
    · simp only [Value.ownBlock, Option.some.injEq] at hx
      subst hx
      rcases hat with e | e
      · exact .inl (.inr e)
      · exact .inr (by omega)

set_option maxHeartbeats 16000000 in
theorem above1_any (w0 w : World) (t : Nat) (vA vF : Value) (T : Tr) (hT : TrA w t vA vF T) (hW : Wf T) (p : Pf) (hn : 0 ≤ p.n) (hn' : p.n ≤ 128) (b k i : Nat) (S : Nat → Prop) (h : AboveI w0 t T p b k S w) (hlt : ∀ x, foot t vA vF x → x < b) (hk : (k : Int) ≤ p.n) (hi : nodeAt T.ar p.a k = some i) :
    Calls Tryz.prog 79 #[.int .i64 k, .int .i64 i, .pointer (some ⟨b, 0, none⟩), .pointer (some ⟨b + 1 + 1, 0, none⟩), .pointer (some ⟨b + 1, 0, none⟩)] w fun e w' => e = .returned (.tuple #[]) ∧ ∃ S', AboveI w0 t T p b (k + 1) S' w' ∧ Frm S w w' ∧ Sub S S' w.heap.size := by
  obtain ⟨v, rfl, hB, hTb, hP, h1, h2⟩ := h
  have hi' := nodeAt_lt hW p.a k i hi
  have e0 : T.ar.getD i nd0 = T.ar[i] := by simp [hi']
  have hA : aboveK T p (k + 1) = aboveK T p k ++ (if T.ar[i].th = true then [⟨pof p.a k, T.ar[i].v⟩] else []) := by simp only [aboveK, hi, e0]
  have hln := aboveK_len T p k
  obtain ⟨c0, -, -, -, -, -, ct⟩ := hT.head
  obtain ⟨A, c, hvA, hlc, hcm, hAz, hAt, hcell, -⟩ := hT.arena (by have := hW.1; omega)
  obtain ⟨-, -, q2, q3⟩ := hcell i hi'
  subst hvA
  generalize T.ar[i] = x at q2 q3 hA
  have f1 := free_of_one h1
  have c1 := cell_of_one h1
  have cT := cell_of_one hTb
  have zT := lt_of_block hTb
  have z1 := lt_of_block h1
  obtain ⟨pa, pb, pc, pd, -, -, -, -, pz⟩ := id hP
  have H1 := Lib.hid h1
  have H2 := Lib.hid h2
  have HP := Lib.hid hP
  have HT := Lib.hid hT
  have HTb := Lib.hid hTb
  have HA := Lib.hid hA
  clear h1 h2 hP hi hT hTb hcell e0 hA
  cases hx : x.th
  · rw [hx] at q2
    have HA' : Hid (aboveK T p (k + 1) = aboveK T p k) := by rw [HA.out, hx]; exact List.append_nil _
    clear hx HA
    go_enter Tryz.func79, Tryz.ntmps79
    go_wp2
    go_end0
    refine ⟨rfl, _, ⟨v, rfl, hB, HTb.out, HP.out, H1.out, ?_⟩, Frm.refl _ _, Sub.refl _ _⟩
    rw [HA'.out]
    exact H2.out
  · rw [hx] at q2
    have HA' : Hid (aboveK T p (k + 1) = aboveK T p k ++ [⟨pof p.a k, x.v⟩]) := by rw [HA.out, hx]; exact rfl
    obtain ⟨i0, hi0, hz0, hz1, hz2⟩ := info_parts info_pr
    have hap : v.ownBlock ≠ some (b + 1 + 1) := fun e => by have := own_ge H2.out _ e; omega
    clear hx HA
    go_enter Tryz.func79, Tryz.ntmps79
    go_wp2_with fail
    go_region_law (first | (refine step_append_lies _ rfl (.tmp 15) (.tmp 29) _ rfl (b + 1 + 1 + 1) 90 i0 _ 5 40 Tryz.underlying95 hi0 hz0 hz1 hz2 rfl (by omega) _ _ _ (by rfl) (own_block H2.out (fun b _ hl => Below.block (B := w.heap.size) (w := w) (by go_grown) b hl)) ⟨_, 0, none⟩ 1 1 (pr5 ⟨pof p.a k, x.v⟩) (by rfl) rfl (World.news_of_block (cs := (pr5 ⟨pof p.a k, x.v⟩).toArray) (hp_new rfl)) (pr5_cell _) (by omega) (by simp only [maxLen]; omega) (by omega) (by simp; omega) _ rfl ?_; intro g7 cap7 w7 hown7 hg7 hat7 hlt7; have hV7 := b5.alloc z5 (.cells (pr5 ⟨pof p.a k, x.v⟩).toArray 90); have c7 := (grown_cell (p := ⟨b + 1 + 1, 0, none⟩) hV7 hg7 z1 hap).trans c1; have f7 := (grown_frozen (p := ⟨b + 1 + 1, 0, none⟩) hV7 hg7 z1 hap).trans f1; have N7 := Lib.hid (above_step T p k H2.out H1.out HTb.out HP.out hB HA'.out hV7 hg7 hown7 hat7); clear hown7 hg7 hat7 hV7) | (go_simp; go_at_call 12; refine (pof_any p.a k _).mono ?_; rintro e w5 ⟨rfl, hw5⟩; have b5 : Below w.heap.size w w5 := Below.trans (by go_grown) (hw5.mono (by first | exact Nat.le_refl _ | (simp; done) | (simp; omega))); have z5 := b5.size; have y5 : b + 1 + 1 < w5.heap.size := (by omega); have y6 : ¬ b + 1 + 1 = w5.heap.size := (by omega); obtain ⟨k0, k1⟩ := bcell b5; clear hw5))
    all_goals
      go_wp2
      go_end0
      exact ⟨rfl, N7.out⟩

end Go.Proofs.YtcbfppangiopeaaGreat
