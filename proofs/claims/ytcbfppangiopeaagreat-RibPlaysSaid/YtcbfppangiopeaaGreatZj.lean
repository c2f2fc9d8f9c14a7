/-
  What below and Under of package trie return. Condition: the tree lies at the pointer's block.
-/
import Derived.Test.YtcbfppangiopeaaGreatZg
import Derived.Test.YtcbfppangiopeaaGreatYp
namespace Go.Proofs.YtcbfppangiopeaaGreat
open Go.RowKit
set_option maxRecDepth 100000

/-- What Under's function keeps: the list that it has so far. -/
def UnderI (w : World) (t b q' : Nat) (l : List Pr) (S : Nat → Prop) (wr : World) : Prop :=
  ∃ v, (S = fun x => x = q' ∨ v.ownBlock = some x) ∧ b < q' ∧ Below b w wr ∧ TBox wr b t ∧ wr.heap[q']? = some (.cells #[v] 95 (0, 0)) ∧ wr.ownsRow (q' + 1) 90 5 v l.length (prv l)
/-- A list in a box grew by one. -/
theorem under_step {w0 w V1 w7 : World} {t b q' : Nat} (hbq : b < q') {l : List Pr} {v : Value} {y : Pr} {g7 cap7 : Nat} (h2 : w.ownsRow (q' + 1) 90 5 v l.length (prv l)) (h1 : w.heap[q']? = some (.cells #[v] 95 (0, 0))) (hTb : TBox w b t) (hB : Below b w0 w)
    (hV : Below w.heap.size w V1) (hg : V1.grownBy w7 v.ownBlock) (ho : w7.ownsRow (q' + 1) 90 5 (.slice (some ⟨g7, 0, none⟩) (l.length + 1) cap7) (l.length + 1) (prv l ++ pr5 y)) (hat : v.ownBlock = some g7 ∨ g7 = V1.heap.size) :
    ∃ S', UnderI w0 t b q' (l ++ [y]) S' (w7.setCell ⟨q', 0, none⟩ (.slice (some ⟨g7, 0, none⟩) (l.length + 1) cap7)) ∧ Frm (fun x => x = q' ∨ v.ownBlock = some x) w (w7.setCell ⟨q', 0, none⟩ (.slice (some ⟨g7, 0, none⟩) (l.length + 1) cap7)) ∧ Sub (fun x => x = q' ∨ v.ownBlock = some x) S' w.heap.size := by
  have z1 := lt_of_block h1
  have zV := hV.size
  have hge := own_ge h2
  have hge7 : q' + 1 ≤ g7 := own_ge ho g7 rfl
  have hF : Frm (fun x => x = q' ∨ v.ownBlock = some x) w w7 := (frm_of_below hV).grown hg (fun k hk => .inl (.inr hk))
  have hF' := hF.setCell (p := ⟨q', 0, none⟩) (.inl (.inl rfl)) (.slice (some ⟨g7, 0, none⟩) (l.length + 1) cap7)
  have hq : w7.heap[q']? = some (.cells #[v] 95 (0, 0)) := (hg.block _ (by omega) (fun e => by have := hge _ e.symm; omega)).trans ((hV.block _ z1).trans h1)
  refine ⟨_, ⟨.slice (some ⟨g7, 0, none⟩) (l.length + 1) cap7, rfl, hbq, ?_, ?_, one_setCell hq, ?_⟩, hF', ?_⟩
  · exact hB.trans (hF'.below (B := b) (fun x hx => by rcases hx with rfl | hx; omega; have := hge x hx; omega) (by omega))
  · exact (hF'.block b (by omega) (fun e => by rcases e with e | e; omega; have := hge b e; omega)).trans hTb
  · rw [prv_append, prv_one, List.length_append]
    exact ownsRow_setCell_other ho (by simp [Value.ownBlock]; omega) _
  · rintro x (rfl | hx)
    · exact .inl (.inl rfl)
    · simp only [Value.ownBlock, Option.some.injEq] at hx
      subst hx
      rcases hat with e | e
      · exact .inl (.inr e)
      · exact .inr (by omega)
/-- What a node that is shown adds. -/
def shown (T : Tr) (q : Pf) (i : Nat) : List Pr := if (T.ar.getD i nd0).th = true then [⟨q, (T.ar.getD i nd0).v⟩] else []

set_option maxHeartbeats 16000000 in
theorem under1_any (w0 w : World) (t : Nat) (vA vF : Value) (T : Tr) (hT : TrA w t vA vF T) (hW : Wf T) (q : Pf) (b q' i : Nat) (l : List Pr) (hl : l.length ≤ 1000000000) (S : Nat → Prop) (h : UnderI w0 t b q' l S w) (hi' : i < T.ar.length) :
    Calls Tryz.prog 72 #[.agg #[.int .u64 (u q.a.hi), .int .u64 (u q.a.lo), .bool q.a.v6, .int .i64 q.n], .int .i64 i, .pointer (some ⟨b, 0, none⟩), .pointer (some ⟨q', 0, none⟩)] w fun e w' => e = .returned (.tuple #[]) ∧ ∃ S', UnderI w0 t b q' (l ++ shown T q i) S' w' ∧ Frm S w w' ∧ Sub S S' w.heap.size := by
  obtain ⟨v, rfl, hbq, hB, hTb, h1, h2⟩ := h
  have e0 : T.ar.getD i nd0 = T.ar[i] := by simp [hi']
  have hA : shown T q i = (if T.ar[i].th = true then [⟨q, T.ar[i].v⟩] else []) := by unfold shown; rw [e0]
  obtain ⟨c0, -, -, -, -, -, ct⟩ := hT.head
  obtain ⟨A, c, hvA, hlc, hcm, hAz, hAt, hcell, -⟩ := hT.arena (by have := hW.1; omega)
  obtain ⟨-, -, q2, q3⟩ := hcell i hi'
  subst hvA
  generalize T.ar[i] = x at q2 q3 hA
  have f1 := free_of_one h1
  have c1 := cell_of_one h1
  have cT := cell_of_one hTb
  have zT := lt_of_block hTb
  have z1 := lt_of_block h1
  have zb : ¬ b = w.heap.size := by omega
  have zb1 : ¬ q' = w.heap.size := by omega
  have zA : ¬ A = w.heap.size := by omega
  have zt : ¬ t = w.heap.size := by omega
  have H1 := Lib.hid h1
  have H2 := Lib.hid h2
  have HT := Lib.hid hT
  have HTb := Lib.hid hTb
  have HA := Lib.hid hA
  clear h1 h2 hT hTb hcell e0 hA
  cases hx : x.th
  · rw [hx] at q2
    have HA' : Hid (shown T q i = []) := by rw [HA.out, hx]; exact rfl
    clear hx HA
    go_enter Tryz.func72, Tryz.ntmps72
    go_wp2
    go_end0
    have hb1 : Below w.heap.size w (w.alloc (.cells #[.int .u64 (u q.a.hi), .int .u64 (u q.a.lo), .bool q.a.v6, .int .i64 q.n] 27)) := by go_grown
    refine ⟨rfl, _, ⟨v, rfl, hbq, hB.trans (hb1.mono (by omega)), (hb1.block _ zT).trans HTb.out, (hb1.block _ z1).trans H1.out, ?_⟩, frm_of_below hb1, Sub.refl _ _⟩
    rw [HA'.out, List.append_nil]
    exact own_block H2.out (fun b _ hl => hb1.block b hl)
  · rw [hx] at q2
    have HA' : Hid (shown T q i = [⟨q, x.v⟩]) := by rw [HA.out, hx]; exact rfl
    obtain ⟨i0, hi0, hz0, hz1, hz2⟩ := info_parts info_pr
    have hap : v.ownBlock ≠ some (q') := fun e => by have := own_ge H2.out _ e; omega
    clear hx HA
    go_enter Tryz.func72, Tryz.ntmps72
    go_wp2_with fail
    have hb1 : Below w.heap.size w (w.alloc (.cells #[.int .u64 (u q.a.hi), .int .u64 (u q.a.lo), .bool q.a.v6, .int .i64 q.n] 27)) := by go_grown
    have H2' := Lib.hid (own_block H2.out (fun b _ hl => hb1.block b hl))
    have H1' := Lib.hid ((hb1.block _ z1).trans H1.out)
    have HTb' := Lib.hid ((hb1.block _ zT).trans HTb.out)
    have hB' := hB.trans (hb1.mono (by omega))
    have d1 := (hb1.cell (p := ⟨q', 0, none⟩) z1).trans c1
    have g1 := (hb1.frozen (p := ⟨q', 0, none⟩) z1).trans f1
    have dT := (hb1.cell (p := ⟨b, 0, none⟩) zT).trans cT
    have d0 := (hb1.cell (p := ⟨t, 0, none⟩) ct).trans c0
    have d3 := (hb1.cell (p := ⟨A, i * 4 + 3, none⟩) hAz).trans q3
    obtain ⟨pa, pb, pc, pd, -⟩ : PBox (w.alloc (.cells #[.int .u64 (u q.a.hi), .int .u64 (u q.a.lo), .bool q.a.v6, .int .i64 q.n] 27)) w.heap.size q := by exact ⟨by go_simp <;> rfl, by go_simp <;> rfl, by go_simp <;> rfl, by go_simp <;> rfl, by go_simp <;> rfl, by go_simp <;> rfl, by go_simp <;> rfl, by go_simp <;> rfl, by go_size⟩
    have hzV : q' < (w.alloc (.cells #[.int .u64 (u q.a.hi), .int .u64 (u q.a.lo), .bool q.a.v6, .int .i64 q.n] 27)).heap.size := by simp; omega
    have hzS := hb1.size
    have HF := Lib.hid (frm_of_below (S := fun x => x = q' ∨ v.ownBlock = some x) hb1)
    have hz9 : (w.alloc (.cells #[.int .u64 (u q.a.hi), .int .u64 (u q.a.lo), .bool q.a.v6, .int .i64 q.n] 27)).heap.size = w.heap.size + 1 := by simp
    generalize World.alloc w _ = V at H2' H1' HTb' hB' d1 g1 dT d0 d3 pa pb pc pd hzV hzS HF hz9 ⊢
    have y1 : q' + 1 ≤ V.heap.size := by omega
    have y2 : ¬ q' = V.heap.size := by omega
    clear hb1 hz9 c0 c1 f1 cT q2 q3
    go_region_law (refine step_append_lies _ rfl (.tmp 14) (.tmp 25) _ rfl (q' + 1) 90 i0 _ 5 40 Tryz.underlying95 hi0 hz0 hz1 hz2 rfl (by omega) _ _ _ (by rfl) (own_block H2'.out (fun b _ hl => Below.block (B := V.heap.size) (w := V) (by go_grown) b hl)) ⟨_, 0, none⟩ 1 1 (pr5 ⟨q, x.v⟩) (by rfl) rfl (World.news_of_block (cs := (pr5 ⟨q, x.v⟩).toArray) (hp_new rfl)) (pr5_cell _) (by omega) (by simp only [maxLen]; omega) (by omega) (by simp; omega) _ rfl ?_; intro g7 cap7 w7 hown7 hg7 hat7 hlt7; have hV7 := below_alloc_drew V (.cells (pr5 ⟨q, x.v⟩).toArray 90); have c7 := (grown_cell (p := ⟨q', 0, none⟩) hV7 hg7 hzV hap).trans d1; have f7 := (grown_frozen (p := ⟨q', 0, none⟩) hV7 hg7 hzV hap).trans g1; have N7 := Lib.hid (under_step hbq H2'.out H1'.out HTb'.out hB' hV7 hg7 hown7 hat7); clear hown7 hg7 hat7 hV7)
    all_goals
      go_wp2
      go_end0
      obtain ⟨S', n1, n2, n3⟩ := N7.out
      rw [HA'.out]
      exact ⟨rfl, S', n1, HF.out.trans n2 (Sub.refl _ _), fun b hb => (n3 b hb).imp id (fun h => by omega)⟩

end Go.Proofs.YtcbfppangiopeaaGreat
