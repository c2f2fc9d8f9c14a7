/-
  What prune and Del of package trie do. Condition: the tree lies at the pointer's block.
-/
import Derived.Test.YtcbfppangiopeaaGreatZe
import Derived.Deep.RegionHeld3
import Derived.Deep.RegionLaw
namespace Go.Proofs.YtcbfppangiopeaaGreat
open Go.RowKit
set_option maxRecDepth 100000

def isZ (x : Nd) : Bool := ndB x.k0 x.k1 x.th x.v 0 0 false 0
/-- The node j, a kid of i, is let go. -/
def dropT (T : Tr) (i j : Nat) (d : Int) : Tr := { T with ar := T.ar.set i (setKid (T.ar.getD i nd0) d 0), fr := T.fr ++ [j] }
def pruneF (a : Ad) (way : Nat → Nat) : Nat → Tr → Tr
  | 0, T => T
  | n + 1, T => if isZ (T.ar.getD (way (n + 1)) nd0) = true then pruneF a way n (dropT T (way n) (way (n + 1)) (bitv a n)) else T
/-- The numbers of the nodes on the way. -/
def wayN (T : Tr) (a : Ad) (m : Nat) : Nat := (nodeAt T.ar a m).getD 0
def wayL (T : Tr) (a : Ad) (k : Nat) : List Nat := (List.range k).map (wayN T a)
theorem wayL_len (T : Tr) (a : Ad) (k : Nat) : (wayL T a k).length = k := by simp [wayL]
theorem wayL_succ (T : Tr) (a : Ad) (k : Nat) : wayL T a (k + 1) = wayL T a k ++ [wayN T a k] := by simp [wayL, List.range_succ]

theorem wayN_lt {T : Tr} (h : Wf T) (a : Ad) (m : Nat) : wayN T a m < T.ar.length := by
  unfold wayN
  cases hm : nodeAt T.ar a m with
  | none => have := h.1; simp only [Option.getD_none]; omega
  | some i => exact nodeAt_lt h a m i hm
theorem way_cell {w : World} {g n cap : Nat} {T : Tr} {a : Ad} {k : Nat} (h : w.ownsRow 0 3 1 (.slice (some ⟨g, 0, none⟩) n cap) n (ints (wayL T a n))) (hk : k < n) : w.cell? ⟨g, k, none⟩ = some (.int .i64 (wayN T a k : Nat)) := by
  rw [h.cellAt k (by omega)]
  simp [ints, wayL, hk]
/-- What prune's function keeps: the way lies at block g, its box is q. -/
def PruneI (w : World) (T : Tr) (p : Pf) (b g q : Nat) (k : Nat) (S : Nat → Prop) (wr : World) : Prop :=
  (S = fun x => x = g ∨ x = q) ∧ Below b w wr ∧ PBox wr b p ∧ wr.heap[q]? = some (.cells #[.slice (some ⟨g, 0, none⟩) k (p.n.toNat + 1)] 76 (0, 0)) ∧ wr.ownsRow 0 3 1 (.slice (some ⟨g, 0, none⟩) k (p.n.toNat + 1)) k (ints (wayL T p.a k))

set_option maxHeartbeats 400000 in
theorem prune1_any (w0 w : World) (T : Tr) (p : Pf) (b g q k i : Nat) (hbg : b < g) (hgq : g < q) (S : Nat → Prop) (h : PruneI w0 T p b g q k S w) (hk : (k : Int) ≤ p.n) (hi : nodeAt T.ar p.a k = some i) :
    Calls Tryz.prog 92 #[.int .i64 k, .int .i64 i, .pointer (some ⟨q, 0, none⟩)] w fun e w' => e = .returned (.tuple #[]) ∧ ∃ S', PruneI w0 T p b g q (k + 1) S' w' ∧ Frm S w w' ∧ Sub S S' w.heap.size := by
  obtain ⟨rfl, hB, hP, h1, h2⟩ := h
  have f1 := free_of_one h1
  have c1 := cell_of_one h1
  have hz1 := lt_of_block h1
  have H1 := Lib.hid h1
  have H2 := Lib.hid h2
  have HP := Lib.hid hP
  have HI : Hid (wayN T p.a k = i) := by unfold wayN; rw [hi]; exact rfl
  obtain ⟨i0, hi0, hz0, hz1', hz2⟩ := info_parts info_int
  clear h1 h2 hP hi
  go_enter Tryz.func92, Tryz.ntmps92
  go_wp2_with (
    at_builtin
    refine wpList_append_fits _ rfl (.tmp 5) (.tmp 7) _ rfl 0 3 i0 1 Tryz.underlying76 hi0 hz1' g k (p.n.toNat + 1) (ints (wayL T p.a k)) (by rfl) (H2.out.alloc _) ⟨w.heap.size, 0, none⟩ 1 1 (ints [i]) (by rfl) rfl (World.news_of_block (cs := (ints [i]).toArray) (hp_new rfl)) (by simp [ints, Value.oneCell']) (by omega) ?_
    intro w3 hown1 hg1
    have cA : w3.cell? ⟨q, 0, none⟩ = some (.slice (some ⟨g, 0, none⟩) k (p.n.toNat + 1)) := (World.cell?_of_block (hg1.block q (by simp; omega) (by simp; omega))).trans ((cell_lt hz1).trans c1)
    have fA : w3.frozen? ⟨q, 0, none⟩ = false := (World.frozen?_of_block (hg1.block q (by simp; omega) (by simp; omega))).trans ((World.frozen?_of_block (Below.heap_alloc _ _ _ hz1)).trans f1)
    have hq3 : w3.heap[q]? = some (.cells #[.slice (some ⟨g, 0, none⟩) k (p.n.toNat + 1)] 76 (0, 0)) := (hg1.block q (by simp; omega) (by simp; omega)).trans ((Below.heap_alloc _ _ _ hz1).trans H1.out)
    have HO := Lib.hid hown1
    have HG := Lib.hid hg1
    have HQ := Lib.hid hq3
    clear hown1 hg1 hq3
    )
  go_end0
  have hF : Frm (fun x => x = g ∨ x = q) w w3 := (frm_of_below (by go_grown)).trans (S' := fun x => x = g ∨ x = q) ((Frm.refl _ _).grown HG.out (fun k hk => .inl (.inl (by simpa using hk.symm)))) (Sub.refl _ _)
  have hF' := hF.setCell (p := ⟨q, 0, none⟩) (.inl (.inr rfl)) (.slice (some ⟨g, 0, none⟩) (k + 1) (p.n.toNat + 1))
  refine ⟨rfl, _, ⟨rfl, ?_, ?_, one_setCell HQ.out, ?_⟩, hF', Sub.refl _ _⟩
  · exact hB.trans (hF'.below (B := b) (fun x hx => by rcases hx with rfl | rfl <;> omega) (by omega))
  · exact HP.out.frm hF' (by omega)
  · have e := HO.out
    rw [show ints (wayL T p.a k) ++ ints [i] = ints (wayL T p.a (k + 1)) from by rw [wayL_succ, HI.out]; simp [ints]] at e
    exact ownsRow_setCell_other e (by simp [Value.ownBlock]; omega) _
theorem prune_sees (w : World) (t : Nat) (vA vF : Value) (T : Tr) (h : TrA w t vA vF T) (p : Pf) (g q : Nat) (hbg : w.heap.size < g) (hgq : g < q) :
    Sees T t vA vF p 92 #[.pointer (some ⟨q, 0, none⟩)] (PruneI w T p w.heap.size g q) where
  see k i S w' hI _ hk hi := prune1_any w w' T p w.heap.size g q k i hbg hgq S hI hk hi
  keep k S w1 w2 hI hb := by
    obtain ⟨rfl, hB, hP, h1, h2⟩ := hI
    exact ⟨rfl, hB.trans (hb.mono (by have := lt_of_block h1; omega)), hP.keep hb, (hb.block _ (lt_of_block h1)).trans h1, own_block h2 (fun b _ hl => hb.block b hl)⟩
  lt k S w1 hI b hb := by
    obtain ⟨rfl, hB, hP, h1, h2⟩ := hI
    have z1 := lt_of_block h1
    refine ⟨by rcases hb with rfl | rfl <;> omega, fun hf => ?_⟩
    have := h.lt b hf
    rcases hb with rfl | rfl <;> omega

theorem drop_wf {T : Tr} (h : Wf T) (i j : Nat) (d : Int) (hj : j < T.ar.length) (hb : T.fr.length + 1 ≤ 1000000000) : Wf (dropT T i j d) := by
  obtain ⟨h1, h2, h3, h4, h5⟩ := h
  have hl : (dropT T i j d).ar.length = T.ar.length := by simp [dropT]
  refine ⟨by omega, by omega, ?_, ?_, ?_⟩
  · intro x hx
    rw [hl]
    by_cases hi : i < T.ar.length
    · rcases List.mem_or_eq_of_mem_set hx with hx | rfl
      · exact h3 x hx
      · have e : T.ar.getD i nd0 = T.ar[i] := by simp [hi]
        have := h3 _ (List.getElem_mem hi)
        rw [e]
        unfold setKid
        split
        · exact ⟨this.1, by simp only; omega⟩
        · exact ⟨by simp only; omega, this.2⟩
    · rw [show (dropT T i j d).ar = T.ar from List.set_eq_of_length_le (Nat.le_of_not_lt hi)] at hx
      exact h3 x hx
  · intro k hk
    rw [hl]
    simp only [dropT, List.mem_append, List.mem_singleton] at hk
    rcases hk with hk | rfl
    · exact h4 k hk
    · exact hj
  · simp [dropT]
    omega

theorem keep111 {W w' : World} {a b c i j k : Nat} {x y z : Value} (hb : Below W.heap.size W w') (ha : a < W.heap.size) (hbb : b < W.heap.size) (hc : c < W.heap.size) (h1 : W.cell? ⟨a, i, none⟩ = some x) (h2 : W.cell? ⟨b, j, none⟩ = some y) (h3 : W.cell? ⟨c, k, none⟩ = some z) :
    w'.cell? ⟨a, i, none⟩ = some x ∧ w'.cell? ⟨b, j, none⟩ = some y ∧ w'.cell? ⟨c, k, none⟩ = some z := ⟨(hb.cell ha).trans h1, (hb.cell hbb).trans h2, (hb.cell hc).trans h3⟩
theorem grown_cell {V V1 w7 : World} {row : Option Nat} (hb : Below V.heap.size V V1) (hg : V1.grownBy w7 row) {p : Addr} (hp : p.block < V.heap.size) (hn : row ≠ some p.block) : w7.cell? p = V.cell? p :=
  (World.cell?_of_block (hg.block p.block (Nat.lt_of_lt_of_le hp hb.size) (fun e => hn e.symm))).trans (hb.cell hp)
theorem grown_frozen {V V1 w7 : World} {row : Option Nat} (hb : Below V.heap.size V V1) (hg : V1.grownBy w7 row) {p : Addr} (hp : p.block < V.heap.size) (hn : row ≠ some p.block) : w7.frozen? p = V.frozen? p :=
  (World.frozen?_of_block (hg.block p.block (Nat.lt_of_lt_of_le hp hb.size) (fun e => hn e.symm))).trans (hb.frozen hp)
theorem below_alloc_drew (V : World) (o : Obj) : Below V.heap.size V (V.drew.alloc o) := ((Below.refl _ _).drew).alloc (Nat.le_refl _) o
theorem frm_of_grown {V V1 w7 : World} {row : Option Nat} (hb : Below V.heap.size V V1) (hg : V1.grownBy w7 row) : Frm (fun b => row = some b) V w7 := (frm_of_below hb).grown hg (fun _ hk => .inl hk)
/-- At the head of a round of prune. -/
def PruneRel (w : World) (t : Nat) (S : Nat → Prop) (T0 : Tr) (p : Pf) (g q : Nat) (R : Tr) (n : Value) (wr : World) : Prop :=
  ∃ (k : Nat) (T : Tr) (S' : Nat → Prop), n = .int .i64 k ∧ (k : Int) ≤ p.n ∧ pruneF p.a (wayN T0 p.a) k T = R ∧ Wf T ∧ T.ar.length = T0.ar.length ∧ T.fr.length + k ≤ 1000000000 ∧ TrS wr t S' T ∧ PBox wr w.heap.size p ∧
    wr.heap[q]? = some (.cells #[.slice (some ⟨g, 0, none⟩) (p.n.toNat + 1) (p.n.toNat + 1)] 76 (0, 0)) ∧ wr.ownsRow 0 3 1 (.slice (some ⟨g, 0, none⟩) (p.n.toNat + 1) (p.n.toNat + 1)) (p.n.toNat + 1) (ints (wayL T0 p.a (p.n.toNat + 1))) ∧ Frm S w wr ∧ Sub S S' w.heap.size ∧ ¬ S' w.heap.size ∧ ¬ S' g ∧ ¬ S' q

set_option maxHeartbeats 2000000 in
theorem prune_any (w : World) (t : Nat) (S : Nat → Prop) (T : Tr) (h : TrS w t S T) (hW : Wf T) (hb : T.fr.length + 128 ≤ 1000000000) (p : Pf) (hp : psane p = true) (i : Nat) (hi : nodeAt T.ar p.a p.n.toNat = some i) :
    Calls Tryz.prog 73 #[.pointer (some ⟨t, 0, none⟩), .agg #[.int .u64 (u p.a.hi), .int .u64 (u p.a.lo), .bool p.a.v6, .int .i64 p.n]] w (TPost t S w (pruneF p.a (wayN T p.a) p.n.toNat T) (.tuple #[])) := by
  obtain ⟨vA, vF, rfl, h⟩ := h
  have HT := Lib.hid h
  have HW := Lib.hid hW
  have HP := Lib.hid hp
  have HI := Lib.hid hi
  obtain ⟨n0, n1⟩ := psane_bd hp
  have n2 := (wid_bd p.a.v6).2
  obtain ⟨i0, hi0, hz0, hz1', hz2⟩ := info_parts info_int
  have hTz := h.lt
  clear h hW hp hi
  go_enter Tryz.func73, Tryz.ntmps73
  go_wp2_with (
    at_make
    refine wpList_make_own _ rfl _ (.tmp 8) _ rfl 0 3 i0 _ 1 Tryz.underlying76 hi0 hz0 hz1' .i64 .i64 _ (p.n.toNat + 1) (by rfl) (by rfl) (by omega) (by rw [hz2]; omega) (by simp only [maxLen]; omega) (Nat.zero_le _) ?_
    intro w3 hown1 hg1
    have hb3 := (Below.refl _ _).grown hg1 (Nat.le_refl _) (by simp)
    have hP3 : PBox w3 w.heap.size p := PBox.keep (by exact ⟨by go_simp <;> rfl, by go_simp <;> rfl, by go_simp <;> rfl, by go_simp <;> rfl, by go_simp <;> rfl, by go_simp <;> rfl, by go_simp <;> rfl, by go_simp <;> rfl, by go_size⟩) hb3
    have b3 : Below w.heap.size w w3 := below_of (by go_grown) hb3
    have z3 : w.heap.size + 1 < w3.heap.size := by have := lt_of_block (own_heap hown1 rfl).choose_spec; simpa using this
    have ho3 : w3.ownsRow 0 3 1 (.slice (some ⟨w.heap.size + 1, 0, none⟩) 0 (p.n.toNat + 1)) 0 [] := by simpa using hown1
    have HO3 := Lib.hid ho3
    obtain ⟨pa, pb, pc, pd, -⟩ := id hP3
    have z4 : w.heap.size < w3.heap.size := by omega
    have z5 : ¬ w.heap.size = w3.heap.size := by omega
    clear hown1 hg1 hb3 ho3
    )
  refine (along_any _ t vA vF T (HT.out.keep (by go_grown)) HW.out p HP.out _ (enters_of Tryz.func92 (by kernel_rfl) rfl) _ _ (prune_sees w t vA vF T HT.out p (w.heap.size + 1) w3.heap.size (by omega) (by omega)) _ ⟨rfl, by go_grown, hP3.keep (by go_grown), hp_new rfl, HO3.out.alloc _⟩).mono ?_
  rintro e w1 ⟨rfl, S1, m, ⟨-, hb1, hP1, h1, h2⟩, -, -, hm, ⟨j, hj⟩, hm2⟩
  have hmn : m = p.n.toNat := by
    rcases hm2 with e | e
    · omega
    · by_cases h3 : m = p.n.toNat
      · exact h3
      · have e2 := nodeAt_none e (p.n.toNat - (m + 1))
        rw [show m + 1 + (p.n.toNat - (m + 1)) = p.n.toNat from by omega, HI.out] at e2
        cases e2
  subst hmn
  clear pa pb pc pd hP3 b3 HO3 hj hm2 hm
  generalize w3.heap.size = q at h1 z3 z4 z5 ⊢
  have H1 := Lib.hid h1
  have H2 := Lib.hid h2
  have hn1 : ¬ foot t vA vF w.heap.size := fun e => by have := hTz _ e; omega
  have hn2 : ¬ foot t vA vF (w.heap.size + 1) := fun e => by have := hTz _ e; omega
  have hn3 : ¬ foot t vA vF q := fun e => by have := hTz _ e; omega
  obtain ⟨pa, pb, pc, pd, -⟩ := id hP1
  clear h1 h2 hTz
  go_wp2_with fail
  obtain ⟨R, hR⟩ : ∃ R, pruneF p.a (wayN T p.a) p.n.toNat T = R := ⟨_, rfl⟩
  have HR := Lib.hid hR
  rw [hR]
  clear hR
  have e0 : p.n = ((p.n.toNat : Nat) : Int) := by omega
  rw [e0] at pd
  go_loopw [5] (fun n wr => PruneRel w t (foot t vA vF) T p (w.heap.size + 1) q R n wr) (fun n _ => (intOf n).toNat)
  case atStart => exact ⟨p.n.toNat, T, _, by rw [← e0], by omega, HR.out, HW.out, rfl, by omega, ⟨_, _, rfl, HT.out.keep hb1⟩, hP1, H1.out, H2.out, frm_of_below hb1, Sub.refl _ _, hn1, hn2, hn3⟩
  case round =>
    obtain ⟨k, T', S', rfl, hk, hR', hW', hla, hlf, hT', hP', hq', ho', hF', hS', hs1, hs2, hs3⟩ := hrel
    have HR' := Lib.hid hR'
    have HW' := Lib.hid hW'
    have HT' := Lib.hid hT'
    have HQ := Lib.hid hq'
    have HO := Lib.hid ho'
    have HP' := Lib.hid hP'
    have HLA := Lib.hid hla
    clear hR' hW' hT' hq' ho' hP' hla H1 H2 pa pb pc pd hP1 e0
    by_cases hk0 : k = 0
    · subst hk0
      have t0 : decide ((0 : Int) < ((0 : Nat) : Int)) = false := by simp
      clear hk
      go_wp2_with fail
      go_quiet (fail)
      go_wp2
      go_end0
      refine ⟨rfl, S', ?_, ?_, hS'⟩
      · rw [← HR'.out]
        exact HT'.out
      · exact ⟨hF'.os, hF'.tape, hF'.output, hF'.size, hF'.block⟩
    · obtain ⟨k', rfl⟩ : ∃ k', k = k' + 1 := ⟨k - 1, by omega⟩
      have t0 : decide ((0 : Int) < ((k' + 1 : Nat) : Int)) = true := decide_eq_true (by omega)
      have hz' := hF'.size
      obtain ⟨vA', vF', hS'', hT''⟩ := HT'.out
      subst hS''
      obtain ⟨c0, c1, -, -, -, -, ct⟩ := hT''.head
      have hwl := HW'.out.1
      obtain ⟨A, c, hvA, hlc, hcm, -, -, -, -⟩ := hT''.arena (by omega)
      subst hvA
      have hi1 : wayN T p.a (k' + 1) < T'.ar.length := by rw [HLA.out]; exact wayN_lt HW.out _ _
      have hi2 : wayN T p.a k' < T'.ar.length := by rw [HLA.out]; exact wayN_lt HW.out _ _
      have cw1 : wr.cell? ⟨w.heap.size + 1, k' + 1, none⟩ = some (.int .i64 (wayN T p.a (k' + 1) : Nat)) := way_cell HO.out (by omega)
      have cw2 : wr.cell? ⟨w.heap.size + 1, k', none⟩ = some (.int .i64 (wayN T p.a k' : Nat)) := way_cell HO.out (by omega)
      have cq := cell_of_one HQ.out
      have HRn : Hid (pruneF p.a (wayN T p.a) (k' + 1) T' = if isZ (T'.ar.getD (wayN T p.a (k' + 1)) nd0) = true then pruneF p.a (wayN T p.a) k' (dropT T' (wayN T p.a k') (wayN T p.a (k' + 1)) (bitv p.a k')) else T') := Lib.hid rfl
      generalize wayN T p.a (k' + 1) = i1 at hi1 cw1 HRn
      generalize wayN T p.a k' = i2 at hi2 cw2 HRn
      obtain ⟨q0, q1, q2, q3, -, hAz, hAt⟩ := hT''.nodeAt i1 hi1
      have hg1 : T'.ar.getD i1 nd0 = T'.ar[i1] := by simp [hi1]
      rw [hg1] at HRn
      have HX : Hid (T'.ar[i1] = T'.ar[i1]) := Lib.hid rfl
      generalize T'.ar[i1] = x at q0 q1 q2 q3 HRn
      have HTT := Lib.hid hT''
      clear hT'' HT' hg1 HX
      have eZ : ndB x.k0 x.k1 x.th x.v 0 0 false 0 = isZ x := rfl
      go_wp2_with fail
      go_quiet (fail)
      have hd : Below wr.heap.size wr (wr.drewN nq) := below_drewN (Below.refl _ _) nq
      generalize wr.drewN nq = w4 at hd ⊢
      have zq0 := lt_of_block HQ.out
      have dw1 := (hd.cell (p := ⟨w.heap.size + 1, k' + 1, none⟩) (by simp only; omega)).trans cw1
      have dw2 := (hd.cell (p := ⟨w.heap.size + 1, k', none⟩) (by simp only; omega)).trans cw2
      have HT4 := Lib.hid (HTT.out.keep hd)
      have HQ4 := Lib.hid ((hd.block _ (lt_of_block HQ.out)).trans HQ.out)
      have HO4 := Lib.hid (own_block HO.out (fun b _ hl => hd.block b hl))
      have HP4 := Lib.hid (HP'.out.keep hd)
      have hF4 := hF'.then hd
      clear q0 q1 q2 q3 cw1 cw2 cq c0 c1 HTT HQ HO HP' hF' ct hz' hAz
      clear eZ
      cases hZ : isZ x
      · have HE : Hid (pruneF p.a (wayN T p.a) (k' + 1) T' = T') := by rw [HRn.out, hZ]; exact rfl
        clear hZ
        go_wp2
        go_end0
        refine ⟨rfl, _, ⟨_, _, rfl, ?_⟩, hF4, hS'⟩
        rw [← HR'.out, HE.out]
        exact HT4.out
      · have HE : Hid (pruneF p.a (wayN T p.a) (k' + 1) T' = pruneF p.a (wayN T p.a) k' (dropT T' i2 i1 (bitv p.a k'))) := by rw [HRn.out, hZ]; exact rfl
        clear hZ HRn
        obtain ⟨c0, -, -, -, -, -, ct⟩ := HT4.out.head
        obtain ⟨-, -, -, -, hfz, hAz, -⟩ := HT4.out.nodeAt i2 hi2
        obtain ⟨A', c', hvA, -, -, -, -, hcell, -⟩ := HT4.out.arena (by omega)
        simp only [Value.slice.injEq, Option.some.injEq, Addr.mk.injEq, and_true, true_and] at hvA
        obtain ⟨rfl, rfl⟩ := hvA
        have hkc := kid_cell A hcell p.a k' i2 hi2
        have hfk := hfz (i2 * 4 + (bitv p.a k').toNat)
        generalize kid (T'.ar.getD i2 nd0) (bitv p.a k') = kk at hkc
        have cw1 := dw1
        have cw2 := dw2
        have cq := cell_of_one HQ4.out
        have zq := lt_of_block HQ4.out
        have zg : w.heap.size + 1 < w4.heap.size := by omega
        obtain ⟨pa, pb, pc, pd, -, -, -, -, pz⟩ := id HP4.out
        have hb1' := bitv_01 p.a (k' : Int)
        have hb2' : 0 ≤ bitv p.a (k' : Int) ∧ bitv p.a (k' : Int) < 2 := by omega
        have v1 : IntKind.i64.wrap (((k' + 1 : Nat) : Int) - 1) = (k' : Int) := by rw [IntWalk.i64_in _ (by omega)]; omega
        clear hcell hfz hb1'
        go_wp2_with fail
        obtain ⟨W, rfl⟩ : ∃ W, W = w4 := ⟨_, rfl⟩
        have L0 := fun x : Later W.heap.size W => (x.cell ct).trans c0
        have L1 := fun x : Later W.heap.size W => (x.cell hAz).trans hkc
        have L2 := fun x : Later W.heap.size W => (x.cell zq).trans cq
        have L3 := fun x : Later W.heap.size W => (x.cell zg).trans cw1
        have L4 := fun x : Later W.heap.size W => (x.cell zg).trans cw2
        have La := fun x : Later W.heap.size W => (x.cell pz).trans pa
        have Lb := fun x : Later W.heap.size W => (x.cell pz).trans pb
        have Lc := fun x : Later W.heap.size W => (x.cell pz).trans pc
        refine region_tail 17 W.heap.size (by kernel_rfl) (by kernel_rfl) ?_
        simp only [List.take_succ_cons, List.take_zero, List.drop_succ_cons, List.drop_zero]
        repeat (go_big_quiet_step ((go_at_call 90; exact later_of (Nat.le_refl _) (bit_any _ _ _))))
        refine wpQuiet_nil ?_
        intro x
        have hx := x.below
        have qk := L1 x
        have qf := (hx.frozen hAz).trans hfk
        generalize x.at = w5 at hx qk qf ⊢
        have HT5 := Lib.hid ((HT4.out.keep hx).kidset rfl i2 hi2 p.a k' 0)
        have HQ5 := Lib.hid ((hx.block _ (lt_of_block HQ4.out)).trans HQ4.out)
        have HO5 := Lib.hid (own_block HO4.out (fun b _ hl => hx.block b hl))
        have HP5 := Lib.hid (HP4.out.keep hx)
        have hF5 := (hF4.then hx).setCell (p := ⟨A, i2 * 4 + (bitv p.a k').toNat, none⟩) (hS' A (.inr (.inl rfl))) (.int .i64 0)
        have ew1 := (hx.cell (p := ⟨w.heap.size + 1, k' + 1, none⟩) zg).trans cw1
        clear x L0 L1 L2 L3 L4 La Lb Lc cw1 cw2 cq pa pb pc pd hkc c0 HT4 HQ4 HO4 HP4 hF4 dw1 dw2
        go_wp2_with fail
        have hAq : A ≠ q := fun e => hs3 (by rw [← e]; exact .inr (.inl rfl))
        have hAg : A ≠ w.heap.size + 1 := fun e => hs2 (by rw [← e]; exact .inr (.inl rfl))
        have hAp : A ≠ w.heap.size := fun e => hs1 (by rw [← e]; exact .inr (.inl rfl))
        have hfA : Frm (fun b => b = A) w5 (w5.setCell ⟨A, i2 * 4 + (bitv p.a k').toNat, none⟩ (.int .i64 0)) := (Frm.refl (fun b => b = A) _).setCell (.inl rfl) _
        have HQ6 := Lib.hid ((hfA.block q (lt_of_block HQ5.out) (fun e => hAq e.symm)).trans HQ5.out)
        have HO6 := Lib.hid (own_block HO5.out (fun b hb hl => hfA.block b hl (fun e => hAg (by simp [Value.ownBlock] at hb; omega))))
        have HP6 := Lib.hid (HP5.out.frm hfA (fun e => hAp e.symm))
        have ew2 := (hfA.cell (p := ⟨w.heap.size + 1, k' + 1, none⟩) (by simp only; have := hx.size; omega) (fun e => hAg e.symm)).trans ew1
        clear hfA qk qf HQ5 HO5 HP5 ew1
        generalize hV : World.setCell w5 _ _ = V at HQ6 HO6 HP6 ew2 HT5 hF5 ⊢
        obtain ⟨-, d1, -, -, df, -, dt⟩ := HT5.out.head
        have cq := cell_of_one HQ6.out
        have zq := lt_of_block HQ6.out
        have zg : w.heap.size + 1 < V.heap.size := by omega
        have hlf2 : T'.fr.length ≤ 1000000000 := by omega
        clear hV
        have hap := HT5.out.apart.2.1
        have xN : k' < p.n.toNat := by omega
        obtain ⟨N, hN⟩ : ∃ N, p.n.toNat = N := ⟨_, rfl⟩
        rw [hN] at cq xN
        have x1 : (0 : Int) ≤ (k' : Int) + 1 := by omega
        have x2 : (k' : Int) + 1 < (N : Int) + 1 := by omega
        have x3 : k' + 1 < N + 1 := by omega
        have HN := Lib.hid hN
        clear hN
        go_region_law (refine step_append_lies _ rfl (.tmp 55) (.tmp 60) _ rfl 0 3 i0 _ 1 8 Tryz.underlying76 hi0 hz0 hz1' hz2 rfl (by omega) _ T'.fr.length (ints T'.fr) (by rfl) (own_block HT5.out.2.2 (fun b _ hl => Below.block (B := V.heap.size) (w := V) (by go_grown) b hl)) ⟨V.heap.size, 0, none⟩ 1 1 (ints [i1]) (by rfl) rfl (World.news_of_block (cs := (ints [i1]).toArray) (hp_new rfl)) (by simp [ints, Value.oneCell']) (by omega) (by simp only [maxLen]; omega) (by omega) (Nat.zero_le _) _ rfl ?_; intro g7 cap7 w7 hown7 hg7 hat7 hlt7; have hV7 := below_alloc_drew V (.cells #[.int .i64 (i1 : Int)] 3); have c7 := (grown_cell (p := ⟨t, 1, none⟩) hV7 hg7 dt hap).trans d1; have f7 := (grown_frozen (p := ⟨t, 1, none⟩) hV7 hg7 dt hap).trans df; have N7 := Lib.hid ((HT5.out.keep hV7).newF (fr' := T'.fr ++ [i1]) hg7 (by simpa [ints] using hown7) (by simp) hat7); have F7 := Lib.hid (frm_of_grown hV7 hg7); clear hown7 hg7 hat7 hV7)
        all_goals
          clear c7 f7 cq d1 df ew2
          go_wp2
          obtain ⟨m1, m2, m3⟩ := N7.out
          have hV7 := below_alloc_drew V (.cells #[.int .i64 (i1 : Int)] 3)
          have zV := hV7.size
          have m2' := (frm_of_below (S := foot t (Value.slice (some ⟨A, 0, none⟩) T'.ar.length c) vF') hV7).trans m2 (Sub.refl _ _)
          have hF7 := (hF5.then hV7).trans m2 hS'
          have zw := hF5.size
          have hno : ∀ b, b < V.heap.size → ¬ foot t (Value.slice (some ⟨A, 0, none⟩) T'.ar.length c) vF' b → ¬ foot t (Value.slice (some ⟨A, 0, none⟩) T'.ar.length c) (Value.slice (some ⟨g7, 0, none⟩) (T'.fr.length + 1) cap7) b := fun b hb hn e => by
            rcases m3 b e with e | e
            · exact hn e
            · omega
          refine ⟨⟨k', dropT T' i2 i1 (bitv p.a k'), _, by go_num, by omega, HE.out.symm.trans HR'.out, drop_wf HW'.out i2 i1 _ hi1 (by omega), ?_, ?_, ⟨_, _, rfl, m1⟩, HP6.out.frm m2' hs1, (m2'.block q zq hs3).trans HQ6.out, ?_, hF7, hS'.trans m3 (by omega), hno _ (by omega) hs1, hno _ (by omega) hs2, hno _ (by omega) hs3⟩, by simp [intOf]⟩
          · rw [← HLA.out]
            simp [dropT]
          · simp [dropT]
            omega
          · refine own_block HO6.out (fun b hb hl => m2'.block b hl (fun e => hs2 ?_))
            have : b = w.heap.size + 1 := by simpa [Value.ownBlock] using hb.symm
            rw [← this]
            exact e

end Go.Proofs.YtcbfppangiopeaaGreat
