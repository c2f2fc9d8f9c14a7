/-
  What pairs and Pairs return: pairs of the one kind as the other's, and whether they are the same. Condition: the rows lie where the arguments say.
-/
import Derived.Test.YtkgjogkbdkdogaaX2
import Derived.Test.YtkgjogkbdkdogaaX1
import Derived.Laws.BitsLemmas
import Derived.Test.YtkgjogkbdkdogaaReg
import Derived.Test.YtkgjogkbdkdogaaX3
import Derived.Test.YtkgjogkbdkdogaaFr
import Derived.OneCell
namespace Go.Proofs.Ytkgjogkbdkdogaa
open Go.RowKit Go.Maps
set_option maxRecDepth 100000

section
variable {ops : Array Oper} {o : Oper} {a : Act} {w : World} {Q : Exit → Act → World → Prop}
theorem wpList_five1g {E SL : TypeId} (F : Five E SL) {rest : List Oper} (hgd : o.guard = none) (s x : Operand) (ho : o.op = .call { callee := .builtin .append, args := #[s, x], argTypes := #[SL, SL] }) (base : Nat) (v : Value) (n : Nat) (l : List Pr) (hs : a.eval s = v)
    (hown : w.ownsRow base E 5 v n (prv l)) (g : Nat) (r : Pr) (hx : a.eval x = .slice (some ⟨g, 0, none⟩) 1 1) (hg : w.heap[g]? = some (.cells (pr5 r).toArray E (0, 0))) (hb : n ≤ 1000000000) (hbase : base ≤ w.heap.size)
    (h : ∀ g' cap w', w'.ownsRow base E 5 (.slice (some ⟨g', 0, none⟩) (n + 1) cap) (n + 1) (prv (l ++ [r])) → w.grownBy w' v.ownBlock → (v.ownBlock = some g' ∨ g' = w.heap.size) → wpList Try.prog ops Q rest (a.put o.dst (.slice (some ⟨g', 0, none⟩) (n + 1) cap)) w') : wpList Try.prog ops Q (o :: rest) a w := by
  obtain ⟨i0, hi0, hz0, hz1, hz2⟩ := info_parts F.info
  refine wpList_append_lies w hgd s x _ ho base E i0 _ 5 40 F.sl hi0 hz0 hz1 hz2 rfl (by omega) v n _ hs hown ⟨g, 0, none⟩ 1 1 (pr5 r) hx rfl (World.news_of_block (cs := (pr5 r).toArray) hg) (pr5_cell _) (by omega) (by simp only [maxLen]; omega) (by omega) hbase _ rfl ?_
  intro g' cap w' h1 h2 h3 _
  refine h g' cap w' ?_ h2 h3
  rw [prv_append, prv_one]
  exact h1
end
theorem take_one' (l : List Pr) {k : Nat} (h : k < l.length) : l.take (k + 1) = l.take k ++ [l[k]] := List.take_succ_eq_append_getElem h
theorem own_ge' {w : World} {base : Nat} {e : TypeId} {size n : Nat} {v : Value} {xs : List Value} (h : w.ownsRow base e size v n xs) {b : Nat} (hb : v.ownBlock = some b) : base ≤ b ∧ b < w.heap.size := h.lt b hb

@[simp] theorem bool_cells (h : 4 < Try.prog.types.size) : (Try.prog.types[4]'h).size = 1 := by
  have hs : (Try.prog.types[4]?).map (·.size) = some 1 := by kernel_rfl
  rw [Array.getElem?_eq_getElem h] at hs
  simpa using hs
end Go.Proofs.Ytkgjogkbdkdogaa

namespace Go.Proofs.Ytkgjogkbdkdogaa
open Go.RowKit Go.Maps
set_option maxRecDepth 100000

def rdoQ (n h : Int) (x : Ac) (L : List Pr) : List Pr := if x.out = true then delQ x.p L else addQ n h L x.p x.v
def rdoM (n h : Int) (x : Ac) (L : List Pr) (most : Nat) : Nat := if x.out = true then most else addM n h L x.p x.v most
def rdoE (n h : Int) (x : Ac) (L : List Pr) : Int := if x.out = true then delE x.p L else addE n h L x.p x.v
section
variable {w : World} {r : Nat} {S : Nat → Prop} {n h : Int} {L : List Pr} {most : Nat}
end
/-- What is there behind the first k things. -/
def rplays (n h : Int) : List Ac → List Pr × Nat
  | [] => ([], 2)
  | x :: r => (rdoQ n h x (rplays n h r).1, rdoM n h x (rplays n h r).1 (rplays n h r).2)
def rplayK (n h : Int) (ls : List Ac) (k : Nat) : List Pr × Nat := rplays n h (ls.take k).reverse
theorem rplayK_succ (n h : Int) (ls : List Ac) (k : Nat) (hk : k < ls.length) : rplayK n h ls (k + 1) = (rdoQ n h ls[k] (rplayK n h ls k).1, rdoM n h ls[k] (rplayK n h ls k).1 (rplayK n h ls k).2) := by
  unfold rplayK
  rw [List.take_succ_eq_append_getElem hk, List.reverse_append]
  rfl
theorem exR : addE 9 1 [] (pof adA 8) 1 = 0 ∧ addE 9 1 (addQ 9 1 [] (pof adA 8) 1) (pof adA 8) 2 = 0 ∧ addE 9 1 (addQ 9 1 (addQ 9 1 [] (pof adA 8) 1) (pof adA 8) 2) (pof adA 9) 1 = 3 ∧ addQ 9 1 (addQ 9 1 (addQ 9 1 [] (pof adA 8) 1) (pof adA 8) 2) (pof adA 9) 1 = [⟨pof adA 8, 2⟩] ∧ longL [⟨pof adA 8, 2⟩] adA = some ⟨pof adA 8, 2⟩ ∧ addM 9 1 [] (pof adA 8) 1 2 = 10 ∧ addM 9 1 (addQ 9 1 [] (pof adA 8) 1) (pof adA 8) 2 10 = 10 ∧ addM 9 1 (addQ 9 1 (addQ 9 1 [] (pof adA 8) 1) (pof adA 8) 2) (pof adA 9) 1 10 = 10 := by decide +kernel

end Go.Proofs.Ytkgjogkbdkdogaa

namespace Go.Proofs.Ytkgjogkbdkdogaa
open Go.RowKit Go.Maps
set_option maxRecDepth 100000

end Go.Proofs.Ytkgjogkbdkdogaa

namespace Go.Proofs.Ytkgjogkbdkdogaa
open Go.RowKit Go.Maps
set_option maxRecDepth 100000

theorem QBox.frm {S : Nat → Prop} {w w' : World} {b : Nat} {x : Pr} (h : QBox w b x) (hf : Frm S w w') (hn : ¬ S b) : QBox w' b x := by
  obtain ⟨h0, h1, h2, h3, h4, hz⟩ := h
  exact ⟨(hf.cell (p := ⟨b, 0, none⟩) hz hn).trans h0, (hf.cell (p := ⟨b, 1, none⟩) hz hn).trans h1, (hf.cell (p := ⟨b, 2, none⟩) hz hn).trans h2, (hf.cell (p := ⟨b, 3, none⟩) hz hn).trans h3, (hf.cell (p := ⟨b, 4, none⟩) hz hn).trans h4, Nat.lt_of_lt_of_le hz hf.size⟩
theorem QBox.keep {w w' : World} {b : Nat} {x : Pr} (h : QBox w b x) (hf : Below w.heap.size w w') : QBox w' b x := h.frm (frm_of_below (S := fun _ => False) hf) id
theorem put_same {L : List Pr} (hs : Srt L) {x : Pr} (hx : x ∈ L) : putL x.p x.v L = L := by
  have hp := hs.1 x hx
  refine srt_ext (put_srt hs hp) hs (fun y => ?_)
  rw [mem_put hs hp]
  constructor
  · rintro (rfl | ⟨h, _⟩)
    · exact hx
    · exact h
  · intro hy
    by_cases e : y.p = x.p
    · left
      have h1 := lk_some hs hy
      have h2 := lk_some hs hx
      rw [e, h2] at h1
      cases y
      simp_all
    · exact .inr ⟨hy, e⟩
theorem put_back {L : List Pr} (hs : Srt L) {x : Pr} (hx : x ∈ L) : putL x.p x.v (delL x.p L) = L := by
  have hp := hs.1 x hx
  refine srt_ext (put_srt (del_srt hs) hp) hs (fun y => ?_)
  rw [mem_put (del_srt hs) hp, mem_del]
  constructor
  · rintro (rfl | ⟨⟨h, _⟩, _⟩)
    · exact hx
    · exact h
  · intro hy
    by_cases e : y.p = x.p
    · left
      have h1 := lk_some hs hy
      have h2 := lk_some hs hx
      rw [e, h2] at h1
      cases y
      simp_all
    · exact .inr ⟨⟨hy, e⟩, e⟩
theorem add_ok {n h : Int} {L L' : List Pr} {p : Pf} {k : Int} (hp : psane p = true) (hk : 0 ≤ k ∧ k ≤ 65535) (he : putL p k L = L') (hI : Inv n h L') : addE n h L p k = 0 ∧ addQ n h L p k = L' := by
  have h1 : addE n h L p k = 0 := by
    unfold addE fitsB
    rw [if_pos hp, if_pos hk, he]
    have e1 : decide ((L'.length : Int) ≤ n) = true := decide_eq_true hI.few
    have e2 : decide ((unl (hopsL L') : Int) ≤ h) = true := decide_eq_true hI.like
    rw [e1, e2]
    rfl
  refine ⟨h1, ?_⟩
  unfold addQ
  rw [if_pos h1, he]
theorem ge_sub {S S' : Nat → Prop} {m N : Nat} (h : ∀ b, S b → N ≤ b) (g3 : Sub S S' m) (hm : N ≤ m) : ∀ b, S' b → N ≤ b := fun b hb => by
  rcases g3 b hb with e | e
  · exact h b e
  · omega

end Go.Proofs.Ytkgjogkbdkdogaa

namespace Go.Proofs.Ytkgjogkbdkdogaa
open Go.RowKit Go.Maps
set_option maxRecDepth 100000

/-- Whether one of the first k contains an address and is y. -/
def fndK (L : List Pr) (a : Ad) (y : Pr) (k : Nat) : Bool := (L.take k).any fun x => pcon x.p a && decide (x = y)
theorem fndK_succ (L : List Pr) (a : Ad) (y : Pr) {k : Nat} (h : k < L.length) : fndK L a y (k + 1) = (fndK L a y k || (pcon L[k].p a && decide (L[k] = y))) := by
  unfold fndK
  rw [List.take_succ_eq_append_getElem h, List.any_append]
  simp
theorem fnd_all {L : List Pr} {a : Ad} : fndK L a ((longL L a).getD nilPr) L.length = (longL L a).isSome := by
  unfold fndK
  rw [List.take_length]
  cases hl : longL L a with
  | none =>
    simp only [Option.isSome_none]
    rw [List.any_eq_false]
    intro x hx hc
    simp only [Bool.and_eq_true] at hc
    unfold longL at hl
    rw [List.getLast?_eq_none_iff] at hl
    have : x ∈ L.filter fun x => pcon x.p a := List.mem_filter.2 ⟨hx, hc.1⟩
    rw [hl] at this
    cases this
  | some y =>
    obtain ⟨h1, h2⟩ := long_mem hl
    simp only [Option.isSome_some, Option.getD_some]
    exact List.any_eq_true.2 ⟨y, h1, by simp [h2]⟩

end Go.Proofs.Ytkgjogkbdkdogaa

namespace Go.Proofs.Ytkgjogkbdkdogaa
open Go.RowKit Go.Maps
set_option maxRecDepth 100000

theorem unl_snoc (l : List Int) (x : Int) : unl (l ++ [x]) = unl l + if x ∈ l then 0 else 1 := by
  rw [unl_perm (List.perm_append_comm : (l ++ [x]).Perm ([x] ++ l))]
  rfl
/-- How many unlike hops the first k have. -/
def unlK (T : List Pr) (k : Nat) : Nat := unl (hopsL (T.take k))
theorem unlK_succ (T : List Pr) {k : Nat} (h : k < T.length) : unlK T (k + 1) = unlK T k + if T[k].v ∈ hopsL (T.take k) then 0 else 1 := by
  unfold unlK hopsL
  rw [List.take_succ_eq_append_getElem h, List.map_append]
  exact unl_snoc _ _
theorem unlK_le (T : List Pr) (k : Nat) : unlK T k ≤ T.length := by
  unfold unlK
  have h1 := unl_le (hopsL (T.take k))
  unfold hopsL at h1 ⊢
  rw [List.length_map, List.length_take] at h1
  omega
/-- Is none of the first k of that hop? -/
def fstK (T : List Pr) (v : Int) (k : Nat) : Bool := (T.take k).all fun x => decide (x.v ≠ v)
theorem fstK_succ (T : List Pr) (v : Int) {k : Nat} (h : k < T.length) : fstK T v (k + 1) = (fstK T v k && decide (T[k].v ≠ v)) := by
  unfold fstK
  rw [List.take_succ_eq_append_getElem h, List.all_append]
  simp
theorem fstK_mem (T : List Pr) (v : Int) (k : Nat) : fstK T v k = !decide (v ∈ hopsL (T.take k)) := by
  unfold fstK
  rw [Bool.eq_iff_iff]
  simp only [List.all_eq_true, decide_eq_true_eq, Bool.not_eq_true', decide_eq_false_iff_not]
  constructor
  · intro h hm
    obtain ⟨x, hx, e⟩ := mem_hops.1 hm
    exact h x hx e
  · intro h x hx e
    exact h (mem_hops.2 ⟨x, hx, e⟩)

end Go.Proofs.Ytkgjogkbdkdogaa

namespace Go.Proofs.Ytkgjogkbdkdogaa
open Go.RowKit Go.Maps
set_option maxRecDepth 100000

/-- What there would be then, of the first k. -/
def thenK (L : List Pr) (x : Pr) (k : Nat) : List Pr := x :: (L.take k).filter fun y => decide (y.p ≠ x.p)
theorem thenK_succ (L : List Pr) (x : Pr) {k : Nat} (h : k < L.length) : thenK L x (k + 1) = thenK L x k ++ if L[k].p = x.p then [] else [L[k]] := by
  unfold thenK
  rw [List.take_succ_eq_append_getElem h, List.filter_append, List.cons_append]
  congr 2
  by_cases e : L[k].p = x.p
  · simp [e]
  · simp [e]
theorem thenK_len (L : List Pr) (x : Pr) (k : Nat) : (thenK L x k).length ≤ L.length + 1 := by
  unfold thenK
  have h1 := List.length_filter_le (fun y : Pr => decide (y.p ≠ x.p)) (L.take k)
  rw [List.length_take] at h1
  simp only [List.length_cons]
  omega
theorem then_perm {L : List Pr} {x : Pr} (h : Srt L) (hp : psane x.p = true) : (putL x.p x.v L).Perm (thenK L x L.length) := by
  unfold thenK
  rw [List.take_length]
  exact put_perm h hp
theorem then_len {L : List Pr} {x : Pr} (h : Srt L) (hp : psane x.p = true) : (putL x.p x.v L).length = (thenK L x L.length).length := (then_perm h hp).length_eq
theorem then_unl {L : List Pr} {x : Pr} (h : Srt L) (hp : psane x.p = true) : unl (hopsL (putL x.p x.v L)) = unlK (thenK L x L.length) (thenK L x L.length).length := by
  unfold unlK
  rw [List.take_length]
  exact unl_perm ((then_perm h hp).map _)
/-- What was put governs itself. -/
theorem gov_put {L : List Pr} {x : Pr} (h : Srt L) (hp : psane x.p = true) : govL (putL x.p x.v L) x.p = some x := by
  unfold govL
  have hs := put_srt (v := x.v) h hp
  have hm : x ∈ (putL x.p x.v L).filter fun y => pcov y.p x.p := List.mem_filter.2 ⟨(mem_put h hp x).2 (.inl rfl), cov_refl _ hp⟩
  have hsf := filter_srt hs (fun y => pcov y.p x.p)
  obtain ⟨i, hi, hx⟩ := List.getElem_of_mem hm
  generalize hF : ((putL x.p x.v L).filter fun y => pcov y.p x.p) = F at hi hx hsf
  have hne : F ≠ [] := fun e => by rw [e] at hi; cases hi
  rw [List.getLast?_eq_some_getLast hne, List.getLast_eq_getElem]
  rcases Nat.lt_or_ge i (F.length - 1) with e | e
  · exfalso
    have h1 := List.pairwise_iff_getElem.1 hsf.2 i (F.length - 1) hi (by omega) e
    have h2 : F[F.length - 1] ∈ ((putL x.p x.v L).filter fun y => pcov y.p x.p) := by rw [hF]; exact List.getElem_mem _
    have h3 := cov_cmp (List.mem_filter.1 h2).2
    rw [hx] at h1
    have h4 := pcmp_anti x.p F[F.length - 1].p
    omega
  · have : F.length - 1 = i := by omega
    simp only [this, hx]
def goodB (x : Pr) : Bool := psane x.p && (decide (0 ≤ x.v) && decide (x.v ≤ 65535))
end Go.Proofs.Ytkgjogkbdkdogaa

namespace Go.Proofs.Ytkgjogkbdkdogaa
open Go.RowKit Go.Maps
set_option maxRecDepth 100000

theorem filter_all {α : Type} {p : α → Bool} {l : List α} (h : ∀ x ∈ l, p x = true) : l.filter p = l := List.filter_eq_self.2 h
theorem put_permF {p : Pf} {v : Int} (hp : psane p = true) : ∀ {L : List Pr}, Srt L → (putL p v L).Perm (L.filter (fun x => decide (x.p ≠ p)) ++ [⟨p, v⟩]) := by
  intro L
  induction L with
  | nil => intro _; exact List.Perm.refl _
  | cons x l ih =>
    intro h
    obtain ⟨h1, h2, h3⟩ := srt_cons.1 h
    have hself : pcmp p p = 0 := (pcmp_eq hp hp).2 rfl
    unfold putL
    split
    · rename_i hc
      have hne : x.p ≠ p := fun e => by rw [e, hself] at hc; omega
      rw [List.filter_cons_of_pos (by simpa using hne)]
      exact (ih h3).cons x
    · rename_i hc
      split
      · rename_i hz
        have he : x.p = p := (pcmp_eq h1 hp).1 hz
        rw [List.filter_cons_of_neg (by simpa using he), filter_all (fun y hy => by
          have := h2 y hy
          rw [he] at this
          simp only [decide_eq_true_eq]
          intro e
          rw [e, hself] at this
          omega)]
        exact (List.perm_append_comm (l₁ := [⟨p, v⟩]) (l₂ := l))
      · rename_i hz
        have hall : ∀ y ∈ x :: l, decide (y.p ≠ p) = true := fun y hy => by
          simp only [decide_eq_true_eq]
          rcases List.mem_cons.1 hy with e | e
          · rw [e]
            intro e
            rw [e, hself] at hz
            exact hz rfl
          · intro e2
            have := h2 y e
            rw [e2] at this
            exact hc this
        rw [filter_all hall]
        exact (List.perm_append_comm (l₁ := [⟨p, v⟩]) (l₂ := x :: l))
theorem delq_filter {p : Pf} {L : List Pr} (he : delE p L = 0) : delQ p L = L.filter (fun y => decide (y.p ≠ p)) := by
  unfold delE at he
  unfold delQ
  by_cases e : psane p = true
  · rw [if_pos e]
    rfl
  · rw [if_neg e] at he
    cases he
theorem lk_noneF {p : Pf} : ∀ {L : List Pr}, lk L p = none → ∀ y ∈ L, y.p ≠ p := by
  intro L
  induction L with
  | nil => intro _ y hy; cases hy
  | cons x l ih =>
    intro h y hy
    rw [lk_cons] at h
    split at h
    · cases h
    · rename_i hne
      rcases List.mem_cons.1 hy with e | e
      · rw [e]
        exact hne
      · exact ih h y e
theorem delq_stay {p : Pf} {L : List Pr} (he : delE p L ≠ 0) : delQ p L = L := by
  unfold delE at he
  unfold delQ
  by_cases e : psane p = true
  · rw [if_pos e] at he ⊢
    by_cases e2 : (lk L p).isSome = true
    · rw [if_pos e2] at he
      exact absurd rfl he
    · have hn : lk L p = none := by
        cases h : lk L p with
        | none => rfl
        | some v => rw [h] at e2; exact absurd rfl e2
      exact filter_all fun y hy => by
        simp only [decide_eq_true_eq]
        exact lk_noneF hn y hy
  · rw [if_neg e]
def lastS (x : Ac) (T : List Pr) : List Pr := T.filter (fun y => decide (y.p ≠ x.p)) ++ (if x.out = true then [] else [⟨x.p, x.v⟩])
theorem last_step {n h : Int} {L T : List Pr} {x : Ac} (hs : Srt L) (hp : T.Perm L) (he : rdoE n h x L = 0) : (lastS x T).Perm (rdoQ n h x L) := by
  unfold lastS rdoQ
  unfold rdoE at he
  cases hx : x.out
  · rw [hx] at he
    simp only [Bool.false_eq_true, if_false] at he ⊢
    have hq : addQ n h L x.p x.v = putL x.p x.v L := by unfold addQ; rw [if_pos he]
    have hsane : psane x.p = true := by
      unfold addE at he
      by_cases e : psane x.p = true
      · exact e
      · rw [if_neg e] at he
        cases he
    rw [hq]
    exact ((hp.filter _).append_right _).trans (put_permF hsane hs).symm
  · rw [hx] at he
    simp only [if_true] at he ⊢
    rw [List.append_nil]
    have hq : delQ x.p L = L.filter (fun y => decide (y.p ≠ x.p)) := delq_filter he
    rw [hq]
    exact hp.filter _
theorem last_stay {n h : Int} {L : List Pr} {x : Ac} (he : rdoE n h x L ≠ 0) : rdoQ n h x L = L := by
  unfold rdoE at he
  unfold rdoQ
  cases hx : x.out
  · rw [hx] at he
    simp only [Bool.false_eq_true, if_false] at he ⊢
    unfold addQ
    rw [if_neg he]
  · rw [hx] at he
    simp only [if_true] at he ⊢
    exact delq_stay he
end Go.Proofs.Ytkgjogkbdkdogaa

namespace Go.Proofs.Ytkgjogkbdkdogaa
open Go.RowKit

section
variable {P : Program} {ops : Array Oper} {md : Region.Mode} {C : World → Prop}

def sink1B (md : Region.Mode) (ops : Array Oper) (n : Nat) : Bool :=
  (List.range n).all fun i => i == 0 || (List.range (n + 1)).any fun j => decide (i < j) && Region.waitsFor md ops j i
structure Inv1 (md : Region.Mode) (ops : Array Oper) (n : Nat) (listed : Array Bool) : Prop where
  head : HeadInv md ops n listed
  zero : listed.getD 0 false = true
theorem Inv1.set {n i : Nat} {listed : Array Bool} (inv : Inv1 md ops n listed) (hi : i ∈ Region.ready md ops listed) (hin : i < n) : Inv1 md ops n (listed.setIfInBounds i true) :=
  ⟨inv.head.set hi hin, getD_set_true inv.zero⟩
theorem waits1 {n : Nat} {listed : Array Bool} (hs : sink1B md ops n = true) (hc : Region.chainB md ops n = true) (inv : Inv1 md ops n listed) :
    ∀ (d i : Nat), n - i = d → i < n → listed.getD i true = false → ∀ t, n ≤ t → t ∉ Region.ready md ops listed := by
  intro d
  induction d using Nat.strongRecOn with
  | _ d ih =>
    intro i hd hi hun t ht hr
    obtain ⟨_, ot, hot, hall⟩ := mem_ready.1 hr
    have htlt : t < ops.size := (Array.getElem?_eq_some_iff.1 hot).1
    have hi0 : i ≠ 0 := by
      intro e
      subst e
      have := inv.zero
      rw [getD_both hun] at this
      cases this
    by_cases htn : t = n
    · subst htn
      have h1 := List.all_eq_true.1 hs i (List.mem_range.2 hi)
      simp only [Bool.or_eq_true, beq_iff_eq] at h1
      obtain ⟨j, hj, hj2⟩ := List.any_eq_true.1 (h1.resolve_left hi0)
      simp only [Bool.and_eq_true, decide_eq_true_eq] at hj2
      obtain ⟨oj, hoj, e, he, hb, hon⟩ := Region.waitsFor_spec hj2.2
      have hjle : j ≤ t := by have := List.mem_range.1 hj; omega
      by_cases hjt : j = t
      · subst hjt
        have : oj = ot := Option.some.inj (hoj.symm.trans hot)
        subst this
        have h2 := hall e he hb
        rw [hon, getD_both hun] at h2
        cases h2
      · cases hl : listed.getD j false with
        | true =>
          have h2 := inv.head.closed j oj hoj hl e he hb
          rw [hon, getD_both hun] at h2
          cases h2
        | false =>
          have hjs : j < listed.size := by rw [inv.head.size]; omega
          exact ih (t - j) (by omega) j rfl (by omega) (getD_in hjs hl) t (Nat.le_refl _) hr
    · have h1 := List.all_eq_true.1 hc t (List.mem_range.2 htlt)
      simp only [Bool.or_eq_true, decide_eq_true_eq] at h1
      rcases h1 with h1 | h1
      · omega
      · obtain ⟨o', ho', e, he, hb, hon⟩ := Region.waitsFor_spec h1
        have : o' = ot := Option.some.inj (ho'.symm.trans hot)
        subst this
        have h2 := hall e he hb
        rw [hon, getD_both (inv.head.tail (t - 1) (by omega) (by omega))] at h2
        cases h2

theorem AnyHead.first1 {n i : Nat} {oi : Oper} {v : Value} {L : Array Bool → Act → Prop} (hi : ops[i]? = some oi) (hsel : ∀ (j : Nat) (o : Oper) cs b, ops[j]? = some o → o.op ≠ .select cs b)
    (hs : sink1B md ops n = true) (hc : Region.chainB md ops n = true) (hin : i < n) (hL : ∀ done a, L done a → ∀ j ∈ Region.ready md ops done, n ≤ j) (f : Nat) :
    ∀ (done : Array Bool) (a : Act), Inv1 md ops n done →
      (∀ j oj, ops[j]? = some oj → j ≠ i → done.getD j true = false → (∀ e ∈ oj.after, Region.binds md e = true → e.on ≠ i) → oi.apart ops oj = true) →
      i ∈ Region.ready md ops done → YieldsIn P ops C oi v a → AnyHead P md ops C n L f (done.setIfInBounds i true) (a.put oi.dst v) → AnyHead P md ops C n L (f + 1) done a := by
  induction f with
  | zero =>
    intro done a inv _ hr hy H
    refine ⟨List.ne_nil_of_mem hr, fun j hj => ?_⟩
    rcases Nat.lt_or_ge j n with hjn | hjn
    · refine ⟨hjn, ?_⟩
      by_cases e : j = i
      · subst e
        exact hy.qOp hi H
      · exact absurd (hL _ _ H j (ready_mono hj e)) (by omega)
    · exact absurd hj (waits1 hs hc inv _ i rfl hin (mem_ready.1 hr).1 j hjn)
  | succ f ih =>
    intro done a inv hfree hr hy H
    refine ⟨List.ne_nil_of_mem hr, fun j hj => ?_⟩
    rcases Nat.lt_or_ge j n with hjn | hjn
    · refine ⟨hjn, ?_⟩
      by_cases e : j = i
      · subst e
        exact hy.qOp hi H
      · obtain ⟨hjun, oj, hoj, hall⟩ := mem_ready.1 hj
        have hno : ∀ e ∈ oj.after, Region.binds md e = true → e.on ≠ i := by
          intro e he hb heq
          have h1 := hall e he hb
          rw [heq, getD_both (mem_ready.1 hr).1] at h1
          cases h1
        have h2 := qOp_put hoj (hfree j oj hoj e hjun hno) (fun cs b => hsel i oi cs b hi) (fun cs b => hsel j oj cs b hoj) hy (H.2 j (ready_mono hj e)).2
        refine qOp_mono (fun a' h3 => ih _ a' (inv.set hj hjn) (fun k ok hk hki hun hno' => hfree k ok hk hki ?_ hno') (ready_mono hr (Ne.symm e)) h3.1 ?_) h2
        · by_cases hjk : j = k
          · subst hjk; exact hjun
          · rwa [getD_set_ne true hjk] at hun
        · rw [Array.setIfInBounds_comm _ _ e]
          exact h3.2
    · exact absurd hj (waits1 hs hc inv _ i rfl hin (mem_ready.1 hr).1 j hjn)

theorem AnyHead.lex1 {n g : Nat} {R : Act → Prop} (hsel : Region.noSelect ops = true) (hs : sink1B md ops n = true) (hc : Region.chainB md ops n = true) (l : List Oper) :
    ∀ (k : Nat) (done : Array Bool) (a : Act), (∀ j, j < l.length → l[j]? = ops[k + j]?) → k + l.length = n → Inv1 md ops n done → Region.lexHead md ops g l.length k done = true →
      wpQuiet P ops C R l a → AnyHead P md ops C n (fun done' a' => Region.seqB md ops g n done' = true ∧ R a') l.length done a := by
  induction l with
  | nil =>
    intro k done a _ hk _ hB h
    obtain rfl : k = n := by simpa using hk
    exact ⟨by simpa [Region.lexHead] using hB, h⟩
  | cons o l ih =>
    intro k done a hl hk inv hB h
    have h0 : ops[k]? = some o := by simpa using (hl 0 (by simp)).symm
    simp only [List.length_cons, Region.lexHead, Bool.and_eq_true] at hB
    simp only [List.length_cons] at hk
    have hr : k ∈ Region.ready md ops done := by simpa using hB.1.1
    have hq : qOp P ops C k (wpQuiet P ops C R l) a := by unfold qOp; simp only [h0]; exact h
    obtain ⟨v, hy, hK⟩ := yieldsIn_of_qOp h0 hq
    refine AnyHead.first1 h0 (Region.noSelect_spec hsel) hs hc (by omega) (fun d' a' h' => seqB_ready h'.1) l.length done a inv (Region.free_spec h0 hB.1.2) hr hy ?_
    refine ih (k + 1) _ _ (fun j hj => ?_) (by omega) (inv.set hr (by omega)) hB.2 hK
    have := hl (j + 1) (by simp; omega)
    simpa [Nat.add_assoc, Nat.add_comm 1 j] using this

/-- What can be reckoned of the region. -/
def tail1B (ops : Array Oper) (n : Nat) : Bool :=
  Region.noSelect ops && decide (n < ops.size) && decide (1 ≤ n) && sink1B .any ops n && Region.chainB .any ops n && Region.free .any ops (Array.replicate ops.size false) 0 && (Region.ready .any ops (Array.replicate ops.size false)).contains 0 &&
    ((ops[0]?).map fun o => o.after.isEmpty).getD false && Region.lexHead .any ops (ops.size - n) (n - 1) 1 ((Array.replicate ops.size false).setIfInBounds 0 true)

theorem region_head_tail1 {id : Nat} {Q : Exit → Act → World → Prop} {a : Act} {w : World} {o0 : Oper} {l : List Oper} (n : Nat) (v : Value) (hm : P.follows .mixedOrders = true) (hB : tail1B (o0 :: l).toArray n = true) (hC : C w.drew)
    (hy : Yields P (o0 :: l).toArray o0 v a) (hQ : ∀ c a w, Q (.panic c) (a.put o0.dst v) w → Q (.panic c) a w)
    (h : wpQuiet P (o0 :: l).toArray C (fun a' => ∀ w', C w' → wpList P (o0 :: l).toArray Q (l.drop (n - 1)) a' w') (l.take (n - 1)) (a.put o0.dst v)) : (Code.region id (o0 :: l).toArray true).wp P Q a w := by
  simp only [tail1B, Bool.and_eq_true, decide_eq_true_eq] at hB
  obtain ⟨⟨⟨⟨⟨⟨⟨⟨hsel, hn⟩, hn1⟩, hs⟩, hc⟩, hfr⟩, hrd⟩, haf⟩, hlex⟩ := hB
  generalize hops : (o0 :: l).toArray = ops at *
  have hsz : ops.size = l.length + 1 := by rw [← hops]; simp
  have h00 : ops[0]? = some o0 := by rw [← hops]; simp
  have ht : (l.take (n - 1)).length = n - 1 := by simp; omega
  have hd : (l.drop (n - 1)).length = ops.size - n := by simp; omega
  have inv : Inv1 .any ops n ((Array.replicate ops.size false).setIfInBounds 0 true) := by
    refine ⟨⟨by simp, fun j oj hj hl e he hb => ?_, fun t ht' ht2 => ?_⟩, ?_⟩
    · by_cases hj0 : 0 = j
      · subst hj0
        obtain rfl : oj = o0 := Option.some.inj (hj.symm.trans h00)
        rw [h00] at haf
        simp at haf
        rw [haf] at he
        simp at he
      · rw [getD_set_ne false hj0, getD_replicate_false] at hl
        cases hl
    · rw [getD_set_ne true (by omega)]
      exact getD_in (by simpa using ht2) (getD_replicate_false _ _)
    · simp
      omega
  have H := AnyHead.lex1 (md := .any) (g := ops.size - n) hsel hs hc (l.take (n - 1)) 1 _ (a.put o0.dst v) (fun j hj => by
    rw [ht] at hj
    rw [← hops]
    simp [hj, Nat.add_comm 1 j]) (by rw [ht]; omega) inv (by rw [ht]; exact hlex) h
  refine wp_region_any hm ?_
  have K := AnyHead.any (Q := Q) (g := ops.size - n) (fun done a' w' hw' hL => by
    have := wpAny_of_seq (md := .any) (Q' := Q) (l.drop (n - 1)) n done a' w' (fun j => by
      rw [← hops, show n + j = (n - 1 + j) + 1 by omega]
      simp [List.getElem?_drop]) (by rw [hd]; exact hL.1) (hL.2 w' hw')
    rwa [hd] at this) _ _ _ w.drew hC H
  rw [ht] at K
  have K2 := wpAny_take (md := .any) (Q := Q) h00 hsel hfr hrd hQ hy K
  rw [show n - 1 + (ops.size - n) + 1 = ops.size by omega] at K2
  exact K2
end

theorem region_tail1 {P : Program} {id : Nat} {Q : Exit → Act → World → Prop} {a : Act} {w : World} {o0 : Oper} {l : List Oper} (n B : Nat) (v : Value) (hm : P.follows .mixedOrders = true) (hB : tail1B (o0 :: l).toArray n = true)
    (hy : Yields P (o0 :: l).toArray o0 v a) (hQ : ∀ c a w, Q (.panic c) (a.put o0.dst v) w → Q (.panic c) a w)
    (h : wpQuiet P (o0 :: l).toArray (fun w' => ∃ x : Later B w, w' = x.at) (fun a' => ∀ x : Later B w, wpList P (o0 :: l).toArray Q (l.drop (n - 1)) a' x.at) (l.take (n - 1)) (a.put o0.dst v)) : (Code.region id (o0 :: l).toArray true).wp P Q a w :=
  region_head_tail1 (C := fun w' => ∃ x : Later B w, w' = x.at) n v hm hB ⟨⟨w.drew, (Below.refl _ _).drew⟩, rfl⟩ hy hQ (by
    have e : (fun a' => ∀ w', (∃ x : Later B w, w' = x.at) → wpList P (o0 :: l).toArray Q (l.drop (n - 1)) a' w') = (fun a' => ∀ x : Later B w, wpList P (o0 :: l).toArray Q (l.drop (n - 1)) a' x.at) := by
      funext a'
      apply propext
      exact ⟨fun k x => k _ ⟨x, rfl⟩, fun k w' ⟨x, hx⟩ => hx ▸ k x⟩
    rw [e]
    exact h)

end Go.Proofs.Ytkgjogkbdkdogaa

namespace Go.Proofs.Ytkgjogkbdkdogaa
open Go.RowKit Go.Maps
set_option maxRecDepth 100000

/-- A route that lies at an address. -/
def FBox (w : World) (g o : Nat) (x : Pr) : Prop := w.cell? ⟨g, o, none⟩ = some (.int .u64 (u x.p.a.hi)) ∧ w.cell? ⟨g, o + 1, none⟩ = some (.int .u64 (u x.p.a.lo)) ∧ w.cell? ⟨g, o + 2, none⟩ = some (.bool x.p.a.v6) ∧ w.cell? ⟨g, o + 3, none⟩ = some (.int .i64 x.p.n) ∧ w.cell? ⟨g, o + 4, none⟩ = some (.int .i64 x.v) ∧ g < w.heap.size
theorem FBox.keep {w w' : World} {g o : Nat} {x : Pr} (h : FBox w g o x) (hb : Below w.heap.size w w') : FBox w' g o x := by
  obtain ⟨c0, c1, c2, c3, c4, hz⟩ := h
  exact ⟨(hb.cell (p := ⟨g, o, none⟩) hz).trans c0, (hb.cell (p := ⟨g, o + 1, none⟩) hz).trans c1, (hb.cell (p := ⟨g, o + 2, none⟩) hz).trans c2, (hb.cell (p := ⟨g, o + 3, none⟩) hz).trans c3, (hb.cell (p := ⟨g, o + 4, none⟩) hz).trans c4, Nat.lt_of_lt_of_le hz hb.size⟩
theorem five_at {w : World} {base n c : Nat} {E : TypeId} {A : Option Addr} {l : List Pr} (h : w.ownsRow base E 5 (.slice A n c) n (prv l)) (hn : n = l.length) {k : Nat} (hk : k < l.length) : ∃ g, A = some ⟨g, 0, none⟩ ∧ FBox w g (k * 5) l[k] := by
  obtain ⟨g, c', e, -, hz, hcc⟩ := row_cell h hn hk
  simp only [Value.slice.injEq, true_and] at e
  exact ⟨g, e.1, hcc 0 (by decide), hcc 1 (by decide), hcc 2 (by decide), hcc 3 (by decide), hcc 4 (by decide), hz⟩
def keepJ (x : Ac) (T : List Pr) (j : Nat) : List Pr := (T.take j).filter (fun y => decide (y.p ≠ x.p))
theorem keepJ_succ (x : Ac) (T : List Pr) {j : Nat} (hj : j < T.length) : keepJ x T (j + 1) = keepJ x T j ++ (if T[j].p ≠ x.p then [T[j]] else []) := by
  unfold keepJ
  rw [List.take_succ_eq_append_getElem hj, List.filter_append]
  congr 1
  by_cases h : T[j].p ≠ x.p
  · rw [if_pos h, List.filter_cons_of_pos (by simpa using h)]
    rfl
  · rw [if_neg h, List.filter_cons_of_neg (by simpa using h)]
    rfl
theorem keepJ_len (x : Ac) (T : List Pr) (j : Nat) : (keepJ x T j).length ≤ T.length := by
  unfold keepJ
  have h1 := List.length_filter_le (fun y : Pr => decide (y.p ≠ x.p)) (T.take j)
  have h2 : (T.take j).length ≤ T.length := by rw [List.length_take]; omega
  omega
theorem keepJ_all (x : Ac) (T : List Pr) : keepJ x T T.length = T.filter (fun y => decide (y.p ≠ x.p)) := by
  unfold keepJ
  rw [List.take_length]
end Go.Proofs.Ytkgjogkbdkdogaa

namespace Go.Proofs.Ytkgjogkbdkdogaa
open Go.RowKit Go.Maps
set_option maxRecDepth 100000

theorem rdq_fbox {w : World} {A : Option Addr} {L : List Pr} (h : RdQ w A L) {k : Nat} (hk : k < L.length) : ∃ g off, A = some ⟨g, off, none⟩ ∧ FBox w g (off + k * 5) L[k] := by
  obtain ⟨g, off, e, hz, hc⟩ := h (by rintro rfl; cases hk)
  obtain ⟨c0, c1, c2, c3, c4⟩ := hc k hk
  exact ⟨g, off, e, c0, c1, c2, c3, c4, hz⟩
theorem idx_rpair (g off n c k : Nat) (h : k < n) (V : World) : (Instr.indexAt 31 (.slice (some ⟨g, off, none⟩) n c) (.int .i64 (k : Int))).run Try.prog V = .ok (.pointer (some ⟨g, off + k * 5, none⟩)) V := by
  have h0 : (0 : Int) ≤ (k : Int) := by omega
  have h1 : (k : Int) < (n : Int) := by omega
  go_simp
theorem lk_at : ∀ {L : List Pr} {p : Pf} {k : Nat} (hk : k < L.length), (∀ j, (hj : j < k) → (L[j]'(by omega)).p ≠ p) → L[k].p = p → lk L p = some L[k].v := by
  intro L
  induction L with
  | nil => intro p k hk; cases hk
  | cons x l ih =>
    intro p k hk hn he
    rw [lk_cons]
    cases k with
    | zero => exact if_pos he
    | succ k =>
      have h0 : x.p ≠ p := hn 0 (by omega)
      rw [if_neg h0]
      exact ih (by simpa using hk) (fun j hj => hn (j + 1) (by omega)) he
theorem lk_no : ∀ {L : List Pr} {p : Pf}, (∀ j, (hj : j < L.length) → L[j].p ≠ p) → lk L p = none := by
  intro L
  induction L with
  | nil => intro p _; rfl
  | cons x l ih =>
    intro p hn
    have h0 : x.p ≠ p := hn 0 (by simp)
    rw [lk_cons, if_neg h0]
    exact ih fun j hj => hn (j + 1) (by simpa using hj)
variable {w : World} {A : Option Addr} {L : List Pr} {c : Nat}
set_option maxHeartbeats 4000000 in
theorem kget_any (hr : RdQ w A L) (hl : L.length ≤ 100000) (most : Int) (p : Pf) : Calls Try.prog 23 #[.agg #[.slice A L.length c, .int .i64 most], .agg #[.int .u64 (u p.a.hi), .int .u64 (u p.a.lo), .bool p.a.v6, .int .i64 p.n]] w fun e w' => e = .returned (.tuple #[.int .i64 ((lk L p).getD 0), .bool (lk L p).isSome]) ∧ Below w.heap.size w w' := by
  have HR := Lib.hid hr
  have HL := Lib.hid hl
  clear hr hl
  go_enter Try.func23, Try.ntmps23
  go_upto_region 1 with fail
  generalize hV : World.alloc _ _ = w1
  have b1 : Below w.heap.size w w1 := by subst hV; go_grown
  have HT1 : Hid (KBox w1 w.heap.size A L.length c most) := Lib.hid (by subst hV; exact ⟨by go_simp <;> rfl, by go_simp <;> rfl, by go_size⟩)
  have HP1 : Hid (PBox w1 (w.heap.size + 1) p) := Lib.hid (by subst hV; exact ⟨by go_simp <;> rfl, by go_simp <;> rfl, by go_simp <;> rfl, by go_simp <;> rfl, by go_simp <;> rfl, by go_simp <;> rfl, by go_simp <;> rfl, by go_simp <;> rfl, by go_size⟩)
  have HR1 := Lib.hid (HR.out.keep b1 (Nat.le_refl _))
  clear hV HR
  obtain ⟨k0, k1, kz⟩ := id HT1.out
  go_wp2_with fail
  clear k0 k1 kz
  go_loopw [6] (fun i wr => ∃ k : Nat, k ≤ L.length ∧ i = .int .i64 k ∧ Hid (∀ j, (hj : j < k) → ∀ h : j < L.length, L[j].p ≠ p) ∧ Below w1.heap.size w1 wr) (fun i _ => L.length - (RowKit.intOf i).toNat)
  case atStart => exact ⟨0, Nat.zero_le _, rfl, Lib.hid (fun j hj => absurd hj (Nat.not_lt_zero _)), Below.refl _ _⟩
  case round =>
    obtain ⟨k, hk, rfl, hno, hB⟩ := hrel
    have hk9 : k ≤ 100000 := by have := HL.out; omega
    obtain ⟨W, rfl⟩ : ∃ W, W = wr := ⟨_, rfl⟩
    have HB := Lib.hid hB
    have HTW := Lib.hid (HT1.out.keep hB)
    have HPW := Lib.hid (HP1.out.keep hB)
    obtain ⟨k0, -, kz⟩ := id HTW.out
    by_cases hlt : k < L.length
    · have hlt' : decide ((k : Int) < (L.length : Int)) = true := decide_eq_true (by omega)
      obtain ⟨g, off, hA, hX⟩ := rdq_fbox (HR1.out.keep hB (Nat.le_refl _)) hlt
      subst hA
      have hi1 := fun V => idx_rpair g off L.length c k hlt V
      obtain ⟨x, hx⟩ : ∃ x, L[k] = x := ⟨_, rfl⟩
      rw [hx] at hX
      have HXX := Lib.hid (show ∀ h : k < L.length, L[k] = x from fun _ => hx)
      have HLT := Lib.hid hlt
      have HX := Lib.hid hX
      have hpq := pfEq_iff x.p p
      unfold pfEq at hpq
      go_upto_region 4 with fail
      clear hlt'
      obtain ⟨m0, m1, m2, m3, m4, zm⟩ := hX
      obtain ⟨pa, pb, pc, pd, -, -, -, -, pz⟩ := id HPW.out
      have Lk0 := fun q : Later W.heap.size W => (q.cell kz).trans k0
      have Lm0 := fun q : Later W.heap.size W => (q.cell (p := ⟨g, off + k * 5, none⟩) zm).trans m0
      have Lm1 := fun q : Later W.heap.size W => (q.cell (p := ⟨g, off + k * 5 + 1, none⟩) zm).trans m1
      have Lm2 := fun q : Later W.heap.size W => (q.cell (p := ⟨g, off + k * 5 + 2, none⟩) zm).trans m2
      have Lm3 := fun q : Later W.heap.size W => (q.cell (p := ⟨g, off + k * 5 + 3, none⟩) zm).trans m3
      have Lpa := fun q : Later W.heap.size W => (q.cell pz).trans pa
      have Lpb := fun q : Later W.heap.size W => (q.cell pz).trans pb
      have Lpc := fun q : Later W.heap.size W => (q.cell pz).trans pc
      have Lpd := fun q : Later W.heap.size W => (q.cell pz).trans pd
      clear hx hlt hk hB m0 m1 m2 m3 m4 pa pb pc pd k0
      refine region_later W.heap.size (by kernel_rfl) (by kernel_rfl) ?_
      repeat (go_big_quiet_step (fail))
      refine wpQuiet_nil ?_
      intro q
      have hq := q.below
      generalize q.at = V at hq ⊢
      clear q Lk0 Lm0 Lm1 Lm2 Lm3 Lpa Lpb Lpc Lpd
      have bV := HB.out.trans (hq.mono HB.out.size)
      obtain ⟨m0, m1, m2, m3, m4, zm⟩ := HX.out.keep hq
      obtain ⟨k0, -, kz⟩ := HTW.out.keep hq
      clear hq
      obtain ⟨pq, hpqq⟩ : ∃ pq, pfB (u x.p.a.hi) (u x.p.a.lo) x.p.a.v6 x.p.n (u p.a.hi) (u p.a.lo) p.a.v6 p.n = pq := ⟨_, rfl⟩
      rw [hpqq] at hpq ⊢
      clear hpqq
      cases pq
      · have e : ¬ x.p = p := fun e => by have := hpq.2 e; cases this
        have HE := Lib.hid e
        clear hpq e m0 m1 m2 m3 m4 k0 hi1
        go_wp2
        go_roundw
        case rel => exact ⟨k + 1, HLT.out, by go_num, Lib.hid (fun j hj h => by
          rcases Nat.lt_or_eq_of_le (Nat.le_of_lt_succ hj) with e | e
          · exact hno.out j e h
          · subst e
            rw [HXX.out h]
            exact HE.out), bV⟩
        case measure => simp [RowKit.intOf]; have := HLT.out; omega
      · have HO := Lib.hid (show lk L p = some x.v by
          have := lk_at (p := p) HLT.out (fun j hj => hno.out j hj (by have := HLT.out; omega)) (by rw [HXX.out HLT.out]; exact hpq.1 rfl)
          rw [this, HXX.out HLT.out])
        clear hpq m0 m1 m2 m3
        go_wp2
        refine bodyPost_ret (v := .tuple #[.int .i64 x.v, .bool true]) (by simp [*, results, Try.results23, go_sem] <;> rfl) rfl ⟨by rw [HO.out]; rfl, b1.trans (bV.mono b1.size)⟩
    · obtain rfl : k = L.length := by omega
      have hlt' : decide ((L.length : Int) < (L.length : Int)) = false := by simp
      have HO := Lib.hid (lk_no (L := L) (p := p) fun j hj => hno.out j hj hj)
      clear hlt hk
      go_wp2
      refine bodyPost_ret (v := .tuple #[.int .i64 0, .bool false]) (by simp [*, results, Try.results23, go_sem] <;> rfl) rfl ⟨by rw [HO.out]; rfl, b1.trans (HB.out.mono b1.size)⟩

end Go.Proofs.Ytkgjogkbdkdogaa

namespace Go.Proofs.Ytkgjogkbdkdogaa
open Go.RowKit Go.Maps
set_option maxRecDepth 100000

def delJ (p : Pf) (L : List Pr) (k : Nat) : List Pr := (L.take k).filter (fun y => decide (y.p ≠ p))
theorem delJ_succ (p : Pf) (L : List Pr) {k : Nat} (h : k < L.length) : delJ p L (k + 1) = delJ p L k ++ (if L[k].p ≠ p then [L[k]] else []) := by
  unfold delJ
  rw [List.take_succ_eq_append_getElem h, List.filter_append]
  congr 1
  by_cases h : L[k].p ≠ p
  · rw [if_pos h, List.filter_cons_of_pos (by simpa using h)]
    rfl
  · rw [if_neg h, List.filter_cons_of_neg (by simpa using h)]
    rfl
theorem delJ_len (p : Pf) (L : List Pr) (k : Nat) : (delJ p L k).length ≤ L.length := by
  unfold delJ
  have h1 := List.length_filter_le (fun y : Pr => decide (y.p ≠ p)) (L.take k)
  have h2 : (L.take k).length ≤ L.length := by rw [List.length_take]; omega
  omega
theorem delJ_all (p : Pf) (L : List Pr) : delJ p L L.length = delL p L := by
  unfold delJ
  rw [List.take_length]
  rfl
theorem del_same {p : Pf} {L : List Pr} (h : lk L p = none) : delL p L = L := filter_all fun y hy => by
  simp only [decide_eq_true_eq]
  exact lk_noneF h y hy
theorem del_less {p : Pf} : ∀ {L : List Pr}, lk L p ≠ none → (delL p L).length < L.length := by
  intro L
  induction L with
  | nil => intro h; exact absurd rfl h
  | cons x l ih =>
    intro h
    rw [lk_cons] at h
    have hle := List.length_filter_le (fun y : Pr => decide (y.p ≠ p)) l
    unfold delL at ih ⊢
    by_cases he : x.p = p
    · rw [List.filter_cons_of_neg (by simpa using he), List.length_cons]
      omega
    · rw [if_neg he] at h
      rw [List.filter_cons_of_pos (by simpa using he), List.length_cons, List.length_cons]
      have := ih h
      omega
theorem own_gek {w : World} {base base0 : Nat} {e : TypeId} {size n m c : Nat} {A' : Option Addr} {xs : List Value} (h : w.ownsRow base e size (.slice A' m c) n xs) (hb : base0 ≤ base) : ∀ g, A'.map (·.block) = some g → base0 ≤ g := by
  intro g hg
  refine Nat.le_trans hb (own_ge h g ?_)
  cases A' with
  | none => cases hg
  | some a => exact hg
def KDelPost (w : World) (A : Option Addr) (p : Pf) (L : List Pr) (most : Int) (e : Ending) (w' : World) : Prop := ∃ A' c', e = .returned (.tuple #[.agg #[.slice A' (delQ p L).length c', .int .i64 most], .int .i64 (delE p L)]) ∧ RdQ w' A' (delQ p L) ∧ (∀ g, A'.map (·.block) = some g → A' = A ∨ w.heap.size ≤ g) ∧ Below w.heap.size w w'
theorem size_ktrie : (Try.prog.info? 33).map (·.size) = some 2 := by kernel_rfl
variable {w : World} {A : Option Addr} {L : List Pr} {c : Nat}
set_option maxHeartbeats 4000000 in
theorem kdel_any (hr : RdQ w A L) (hl : L.length ≤ 10000) (most : Int) (p : Pf) : Calls Try.prog 20 #[.agg #[.slice A L.length c, .int .i64 most], .agg #[.int .u64 (u p.a.hi), .int .u64 (u p.a.lo), .bool p.a.v6, .int .i64 p.n]] w (KDelPost w A p L most) := by
  have HR := Lib.hid hr
  have HL := Lib.hid hl
  have HRO := Lib.hid hr
  clear hr hl
  have CS := Lib.hid (fun W => rpsane_any p W)
  unfold KDelPost
  go_enter Try.func20, Try.ntmps20
  go_upto_region 1 with fail
  generalize hV : World.alloc _ _ = w0
  have b0 : Below w.heap.size w w0 := by subst hV; go_grown
  have HT0 : Hid (KBox w0 w.heap.size A L.length c most) := Lib.hid (by subst hV; exact ⟨by go_simp <;> rfl, by go_simp <;> rfl, by go_size⟩)
  have HP0 : Hid (PBox w0 (w.heap.size + 1) p) := Lib.hid (by subst hV; exact ⟨by go_simp <;> rfl, by go_simp <;> rfl, by go_simp <;> rfl, by go_simp <;> rfl, by go_simp <;> rfl, by go_simp <;> rfl, by go_simp <;> rfl, by go_simp <;> rfl, by go_size⟩)
  have hres : w0.heap[w.heap.size + 1 + 1]? = some (.cells #[.slice none 0 0, .int .i64 0] 33 (0, 0)) := by subst hV; repeat (first | (refine hp_new ?_; (simp; done)) | (refine hp_old ?_ ?_; · (first | (simp; done) | (simp; omega))))
  have HQ0 := Lib.hid hres
  clear hV hres
  obtain ⟨pa, pb, pc, pd, -, -, -, -, pz⟩ := id HP0.out
  go_wp2_with fail
  refine (CS.out _).mono ?_
  rintro e w1 ⟨rfl, hw1⟩
  have b1 : Below w.heap.size w w1 := b0.trans (hw1.mono b0.size)
  have HT1 := Lib.hid (HT0.out.keep hw1)
  have HP1 := Lib.hid (HP0.out.keep hw1)
  have HQ1 := Lib.hid ((hw1.block _ (lt_of_block HQ0.out)).trans HQ0.out)
  have HR1 := Lib.hid (HR.out.keep b1 (Nat.le_refl _))
  have zq := lt_of_block HQ1.out
  clear hw1 HT0 HP0 HQ0 HR b0 pa pb pc pd pz
  cases hp : psane p
  · have hp1 : (!psane p) = true := by simp [hp]
    have HD := Lib.hid (show delQ p L = L ∧ delE p L = 1 by unfold delQ delE; rw [hp]; exact ⟨rfl, rfl⟩)
    clear hp
    obtain ⟨k0, k1, kz⟩ := id HT1.out
    have r0 : w1.cell? ⟨w.heap.size + 1 + 1, 0, none⟩ = some (.slice none 0 0) := by rw [cell_row HQ1.out]; rfl
    have r1 : w1.cell? ⟨w.heap.size + 1 + 1, 1, none⟩ = some (.int .i64 0) := by rw [cell_row HQ1.out]; rfl
    have q0 := frozen_of_row w1 (w.heap.size + 1 + 1) 0 _ _ HQ1.out
    have q1 := frozen_of_row w1 (w.heap.size + 1 + 1) 1 _ _ HQ1.out
    go_wp2
    refine bodyPost_ret (v := .tuple #[.agg #[.slice A L.length c, .int .i64 most], .int .i64 1]) (by simp [*, results, Try.results20, go_sem] <;> rfl) rfl ⟨A, c, by rw [HD.out.1, HD.out.2], ?_, fun g _ => .inl rfl, b1.trans (((Below.refl _ _).setCell (by simp; omega) _).setCell (by simp; omega) _)⟩
    rw [HD.out.1]
    exact HRO.out.keep (b1.trans (((Below.refl _ _).setCell (by simp; omega) _).setCell (by simp; omega) _)) (Nat.le_refl _)
  · have hp1 : (!psane p) = false := by simp [hp]
    have HPS := Lib.hid hp
    clear hp
    obtain ⟨k0, k1, kz⟩ := id HT1.out
    go_wp2_with fail
    clear k0 k1 kz
    go_loopw [6, 7] (fun v i wr => ∃ (k : Nat) (A' : Option Addr) (c' N : Nat), v = .slice A' N c' ∧ N = (delJ p L k).length ∧ k ≤ L.length ∧ i = .int .i64 k ∧ Hid (wr.ownsRow w1.heap.size 67 5 (.slice A' N c') N (prv (delJ p L k))) ∧ Below w1.heap.size w1 wr) (fun _ i _ => L.length - (RowKit.intOf i).toNat)
    case atStart => exact ⟨0, none, 0, 0, rfl, rfl, Nat.zero_le _, rfl, Lib.hid (World.ownsRow_nil _ _ _ _), Below.refl _ _⟩
    case round =>
      obtain ⟨k, A', c', N, rfl, hN, hk, rfl, ho, hB⟩ := hrel
      have hNle : N ≤ 10000 := by have := delJ_len p L k; have := HL.out; omega
      have hk9 : k ≤ 10000 := by have := HL.out; omega
      have HN := Lib.hid hN
      clear hN
      obtain ⟨W, rfl⟩ : ∃ W, W = wr := ⟨_, rfl⟩
      have HB := Lib.hid hB
      have HTW := Lib.hid (HT1.out.keep hB)
      have HPW := Lib.hid (HP1.out.keep hB)
      obtain ⟨k0, k1, kz⟩ := id HTW.out
      have zW := hB.size
      by_cases hlt : k < L.length
      · have hlt' : decide ((k : Int) < (L.length : Int)) = true := decide_eq_true (by omega)
        obtain ⟨g, off, hA, hX⟩ := rdq_fbox (HR1.out.keep hB (Nat.le_refl _)) hlt
        subst hA
        have hi1 := fun V => idx_rpair g off L.length c k hlt V
        have hsu := delJ_succ p L hlt
        obtain ⟨x, hx⟩ : ∃ x, L[k] = x := ⟨_, rfl⟩
        rw [hx] at hX hsu
        have HSU := Lib.hid hsu
        have HLT := Lib.hid hlt
        have HX := Lib.hid hX
        have hpq := pfEq_iff x.p p
        unfold pfEq at hpq
        go_upto_region 7 with fail
        clear hlt' k1
        obtain ⟨m0, m1, m2, m3, m4, zm⟩ := hX
        obtain ⟨pa, pb, pc, pd, -, -, -, -, pz⟩ := id HPW.out
        have Lk0 := fun q : Later W.heap.size W => (q.cell kz).trans k0
        have Lm0 := fun q : Later W.heap.size W => (q.cell (p := ⟨g, off + k * 5, none⟩) zm).trans m0
        have Lm1 := fun q : Later W.heap.size W => (q.cell (p := ⟨g, off + k * 5 + 1, none⟩) zm).trans m1
        have Lm2 := fun q : Later W.heap.size W => (q.cell (p := ⟨g, off + k * 5 + 2, none⟩) zm).trans m2
        have Lm3 := fun q : Later W.heap.size W => (q.cell (p := ⟨g, off + k * 5 + 3, none⟩) zm).trans m3
        have Lpa := fun q : Later W.heap.size W => (q.cell pz).trans pa
        have Lpb := fun q : Later W.heap.size W => (q.cell pz).trans pb
        have Lpc := fun q : Later W.heap.size W => (q.cell pz).trans pc
        have Lpd := fun q : Later W.heap.size W => (q.cell pz).trans pd
        clear hx hsu hlt hk hB m0 m1 m2 m3 m4 pa pb pc pd k0
        refine region_later W.heap.size (by kernel_rfl) (by kernel_rfl) ?_
        repeat (go_big_quiet_step (fail))
        refine wpQuiet_nil ?_
        intro q
        have hq := q.below
        generalize q.at = V at hq ⊢
        clear q Lk0 Lm0 Lm1 Lm2 Lm3 Lpa Lpb Lpc Lpd
        have bV := HB.out.trans (hq.mono HB.out.size)
        have HOV := Lib.hid (own_fresh ho.out hq)
        have zV := bV.size
        obtain ⟨m0, m1, m2, m3, m4, zm⟩ := HX.out.keep hq
        obtain ⟨k0, -, kz⟩ := HTW.out.keep hq
        clear hq ho zW
        obtain ⟨pq, hpqq⟩ : ∃ pq, pfB (u x.p.a.hi) (u x.p.a.lo) x.p.a.v6 x.p.n (u p.a.hi) (u p.a.lo) p.a.v6 p.n = pq := ⟨_, rfl⟩
        rw [hpqq] at hpq ⊢
        clear hpqq
        cases pq
        · have e : ¬ x.p = p := fun e => by have := hpq.2 e; cases this
          have HT' : Hid (delJ p L (k + 1) = delJ p L k ++ [x]) := by rw [HSU.out, if_pos e]; exact Lib.hid rfl
          clear hpq e HSU
          go_wp2_with (
            at_builtin
            refine wpList_five1g five_ref rfl (.tmp 27) (.tmp 33) rfl w1.heap.size _ N (delJ p L k) (by rfl) (HOV.out.alloc _) V.heap.size x (by rfl) (heap_alloc_new V _) (by omega) (by simp; omega) ?_
            intro g7 c7 w7 ho7 hg7 hat7
            have b7 : Below w1.heap.size w1 w7 := (bV.alloc (by omega) _).trans ((Below.refl w1.heap.size _).grown hg7 (by simp; omega) (fun b hb => own_ge HOV.out b hb))
            have HO7 := Lib.hid ho7
            clear ho7 hg7 hat7 m0 m1 m2 m3 m4 k0 hi1)
          go_roundw
          case rel => exact ⟨k + 1, some ⟨g7, 0, none⟩, c7, N + 1, rfl, by rw [HT'.out, List.length_append, ← HN.out]; rfl, HLT.out, by go_num, by rw [HT'.out]; exact HO7, b7⟩
          case measure => simp [RowKit.intOf]; have := HLT.out; omega
        · have e := hpq.1 rfl
          have HT' : Hid (delJ p L (k + 1) = delJ p L k) := by rw [HSU.out, if_neg (by simpa using e)]; exact Lib.hid (List.append_nil _)
          clear hpq e HSU m0 m1 m2 m3 m4 k0 hi1
          go_wp2
          go_roundw
          case rel => exact ⟨k + 1, A', c', N, rfl, by rw [HT'.out]; exact HN.out, HLT.out, by go_num, by rw [HT'.out]; exact HOV, bV⟩
          case measure => simp [RowKit.intOf]; have := HLT.out; omega
      · obtain rfl : k = L.length := by omega
        have hlt' : decide ((L.length : Int) < (L.length : Int)) = false := by simp
        rw [delJ_all] at ho HN
        have HQW := Lib.hid ((hB.block _ zq).trans HQ1.out)
        have HRW := Lib.hid (HR1.out.keep hB (Nat.le_refl _))
        have bW := b1.trans (hB.mono b1.size)
        have z1 := b1.size
        clear hlt hk hB
        have hdq : delQ p L = delL p L := by unfold delQ; rw [if_pos HPS.out]
        cases hlk : lk L p with
        | none =>
          have hsame := del_same hlk
          have hde : delE p L = 2 := by unfold delE; rw [if_pos HPS.out, hlk]; rfl
          have hNL : (N : Int) = (L.length : Int) := by rw [HN.out, hsame]
          have te : ((N : Int) == (L.length : Int)) = true := by rw [beq_iff_eq]; exact hNL
          have HD := Lib.hid (show delQ p L = L ∧ delE p L = 2 from ⟨hdq.trans hsame, hde⟩)
          clear hsame hde hNL hdq hlk
          have r0 : W.cell? ⟨w.heap.size + 1 + 1, 0, none⟩ = some (.slice none 0 0) := by rw [cell_row HQW.out]; rfl
          have r1 : W.cell? ⟨w.heap.size + 1 + 1, 1, none⟩ = some (.int .i64 0) := by rw [cell_row HQW.out]; rfl
          have q0 := frozen_of_row W (w.heap.size + 1 + 1) 0 _ _ HQW.out
          have q1 := frozen_of_row W (w.heap.size + 1 + 1) 1 _ _ HQW.out
          go_wp2
          refine bodyPost_ret (v := .tuple #[.agg #[.slice A L.length c, .int .i64 most], .int .i64 2]) (by simp [*, results, Try.results20, go_sem] <;> rfl) rfl ⟨A, c, by rw [HD.out.1, HD.out.2], ?_, fun g _ => .inl rfl, bW.trans (((Below.refl _ _).setCell (by simp; omega) _).setCell (by simp; omega) _)⟩
          rw [HD.out.1]
          exact HRO.out.keep (bW.trans (((Below.refl _ _).setCell (by simp; omega) _).setCell (by simp; omega) _)) (Nat.le_refl _)
        | some v =>
          have hless := del_less (p := p) (L := L) (by rw [hlk]; simp)
          have hde : delE p L = 0 := by unfold delE; rw [if_pos HPS.out, hlk]; rfl
          have te : ((N : Int) == (L.length : Int)) = false := by rw [beq_eq_false_iff_ne, HN.out]; omega
          have HD := Lib.hid (show delQ p L = delL p L ∧ delE p L = 0 from ⟨hdq, hde⟩)
          clear hless hde hdq hlk
          have r0 : W.cell? ⟨w.heap.size + 1 + 1, 0, none⟩ = some (.slice none 0 0) := by rw [cell_row HQW.out]; rfl
          have r1 : W.cell? ⟨w.heap.size + 1 + 1, 1, none⟩ = some (.int .i64 0) := by rw [cell_row HQW.out]; rfl
          have q0 := frozen_of_row W (w.heap.size + 1 + 1) 0 _ _ HQW.out
          have q1 := frozen_of_row W (w.heap.size + 1 + 1) 1 _ _ HQW.out
          go_wp2
          have HOO := Lib.hid (show ∀ w9 : World, w9 = ((W.setCell ⟨w.heap.size + 1 + 1, 0, none⟩ (.slice A' N c')).setCell ⟨w.heap.size + 1 + 1, 1, none⟩ (.int .i64 most)) → RdQ w9 A' (delL p L) from fun w9 hw9 => by
            have hf : Frm (fun b => b = w.heap.size + 1 + 1) W w9 := by
              rw [hw9]
              exact ((Frm.refl (fun b => b = w.heap.size + 1 + 1) W).setCell (p := ⟨w.heap.size + 1 + 1, 0, none⟩) (.inl rfl) _).setCell (p := ⟨w.heap.size + 1 + 1, 1, none⟩) (.inl rfl) _
            have ho9 : w9.ownsRow w1.heap.size 67 5 (.slice A' N c') N (prv (delL p L)) := own_block ho.out (fun b hb hl => hf.block b hl (fun e => by have := own_ge ho.out b hb; omega))
            obtain ⟨A9, c9, e9, hrd⟩ := own_rdq (l := delL p L) (by rw [← HN.out]; exact ho9)
            rw [← HN.out] at e9
            simp only [Value.slice.injEq, true_and] at e9
            obtain ⟨rfl, rfl⟩ := e9
            exact hrd)
          refine bodyPost_ret (v := .tuple #[.agg #[.slice A' N c', .int .i64 most], .int .i64 0]) (by simp [*, results, Try.results20, go_sem] <;> rfl) rfl ⟨A', c', by rw [HD.out.1, HD.out.2, ← HN.out], ?_, fun g hg => .inr (own_gek ho.out (by omega) g hg), bW.trans (((Below.refl _ _).setCell (by simp; omega) _).setCell (by simp; omega) _)⟩
          rw [HD.out.1]
          exact HOO.out _ rfl

end Go.Proofs.Ytkgjogkbdkdogaa

namespace Go.Proofs.Ytkgjogkbdkdogaa
open Go.RowKit
set_option maxRecDepth 100000

/-- How an element lies in cells. -/
structure Kd (α : Type) where
  enc : α → List Value
  k : Nat
  pos : 0 < k
  len : ∀ x, (enc x).length = k
  cell : ∀ x, ∀ u ∈ enc x, u.oneCell' = true
section
variable {α : Type} (K : Kd α)
def Kd.row (l : List α) : List Value := l.flatMap K.enc
theorem Kd.row_append (a b : List α) : K.row (a ++ b) = K.row a ++ K.row b := List.flatMap_append
theorem Kd.row_one (a : α) : K.row [a] = K.enc a := by simp [Kd.row]
theorem Kd.row_cons (a : α) (l : List α) : K.row (a :: l) = K.enc a ++ K.row l := rfl
theorem Kd.row_len (l : List α) : (K.row l).length = l.length * K.k := by
  induction l with
  | nil => simp [Kd.row]
  | cons r l ih => rw [K.row_cons, List.length_append, ih, K.len, List.length_cons, Nat.add_mul]; omega
theorem Kd.row_at (l : List α) (i : Nat) (h : i < l.length) (j : Nat) (hj : j < K.k) : (K.row l)[i * K.k + j]? = (K.enc l[i])[j]? := by
  induction l generalizing i with
  | nil => cases h
  | cons r l ih =>
    rw [K.row_cons]
    cases i with
    | zero => rw [List.getElem?_append_left (by rw [K.len]; omega)]; simp
    | succ i =>
      rw [List.getElem?_append_right (by rw [K.len, Nat.add_mul]; omega)]
      have e : (i + 1) * K.k + j - (K.enc r).length = i * K.k + j := by rw [K.len, Nat.add_mul]; omega
      rw [e, ih i (by simpa using h)]
      rfl
theorem Kd.row_cell (l : List α) : ∀ u ∈ K.row l, u.oneCell' = true := by
  intro u hu
  obtain ⟨x, _, hx⟩ := List.mem_flatMap.1 hu
  exact K.cell x u hx
/-- A type of these elements, and the one of their slices. -/
structure Kd.Ty (E SL : TypeId) : Prop where
  info : ∃ (i : TypeInfo) (z : Value), Try.prog.info? E = some i ∧ i.zero = some z ∧ i.size = K.k ∧ i.bytes ≤ 140000 ∧ z.cells.size = K.k
  sl : Try.prog.underlying SL = some (.slice E)
/-- Elements that lie in memory, as a slice says. -/
def Kd.Rd (w : World) (A : Option Addr) (l : List α) : Prop :=
  l ≠ [] → ∃ g off, A = some ⟨g, off, none⟩ ∧ g < w.heap.size ∧ ∀ i, (h : i < l.length) → ∀ j, j < K.k → w.cell? ⟨g, off + i * K.k + j, none⟩ = (K.enc l[i])[j]?
variable {K}
theorem Kd.Rd.keep {B : Nat} {w w' : World} {A : Option Addr} {l : List α} (h : K.Rd w A l) (hb : Below B w w') (hB : w.heap.size ≤ B) : K.Rd w' A l := fun hn => by
  obtain ⟨g, off, e, hg, hc⟩ := h hn
  refine ⟨g, off, e, Nat.lt_of_lt_of_le hg hb.size, fun i hi j hj => ?_⟩
  exact (hb.cell (p := ⟨g, off + i * K.k + j, none⟩) (Nat.lt_of_lt_of_le hg hB)).trans (hc i hi j hj)
theorem Kd.Rd.kept {w w' : World} {A : Option Addr} {l : List α} (h : K.Rd w A l) (hb : Below w.heap.size w w') : K.Rd w' A l := h.keep hb (Nat.le_refl _)
/-- It lies below a bound, and so stays. -/
theorem Kd.Rd.under {B : Nat} {w w' : World} {A : Option Addr} {l : List α} (h : K.Rd w A l) (hA : ∀ a, A = some a → a.block < B) (hb : Below B w w') : K.Rd w' A l := fun hn => by
  obtain ⟨g, off, e, hg, hc⟩ := h hn
  have hgB := hA _ e
  exact ⟨g, off, e, Nat.lt_of_lt_of_le hg hb.size, fun i hi j hj => (hb.cell (p := ⟨g, off + i * K.k + j, none⟩) hgB).trans (hc i hi j hj)⟩
theorem Kd.Rd.frm {S : Nat → Prop} {w w' : World} {A : Option Addr} {l : List α} (h : K.Rd w A l) (hf : Frm S w w') (hn : ∀ a, A = some a → ¬ S a.block) : K.Rd w' A l := fun hl => by
  obtain ⟨g, off, e, hg, hc⟩ := h hl
  exact ⟨g, off, e, Nat.lt_of_lt_of_le hg hf.size, fun i hi j hj => (hf.cell (p := ⟨g, off + i * K.k + j, none⟩) hg (hn ⟨g, off, none⟩ e)).trans (hc i hi j hj)⟩
theorem Kd.rd_nil (w : World) (A : Option Addr) : K.Rd w A [] := fun h => absurd rfl h
theorem Kd.rd_own {w : World} {base : Nat} {E : TypeId} {v : Value} {n : Nat} {l : List α} (h : w.ownsRow base E K.k v n (K.row l)) (hn : n = l.length) : ∃ A c, v = .slice A n c ∧ n ≤ c ∧ K.Rd w A l ∧ (∀ a, A = some a → base ≤ a.block ∧ a.block < w.heap.size ∧ a = ⟨a.block, 0, none⟩) := by
  subst hn
  have hw := h
  rcases h.2 with ⟨rfl, h0⟩ | ⟨g, cap, cur, rfl, hb, hg, hnc, _⟩
  · obtain rfl := List.eq_nil_of_length_eq_zero h0
    exact ⟨none, 0, rfl, Nat.le_refl _, Kd.rd_nil _ _, fun a e => by cases e⟩
  · have hlt := (hw.lt g rfl).2
    refine ⟨some ⟨g, 0, none⟩, cap, rfl, hnc, fun _ => ⟨g, 0, rfl, hlt, fun i hi j hj => ?_⟩, fun a e => by cases e; exact ⟨hb, hlt, rfl⟩⟩
    have hlt2 : i * K.k + j < l.length * K.k := Nat.lt_of_lt_of_le (by rw [show (i + 1) * K.k = i * K.k + K.k from by rw [Nat.add_mul]; omega]; omega : i * K.k + j < (i + 1) * K.k) (Nat.mul_le_mul_right _ (by omega))
    rw [Nat.zero_add, hw.cellAt (i * K.k + j) hlt2, K.row_at l i hi j hj]
theorem Kd.Rd.news {w : World} {ad : Addr} {l : List α} (h : K.Rd w (some ad) l) : ∀ j u, (K.row l)[j]? = some u → w.cell? (ad.add j) = some u := fun j u hu => by
  have hj : j < l.length * K.k := by
    have := (List.getElem?_eq_some_iff.1 hu).1
    rwa [K.row_len] at this
  have hl : l ≠ [] := by rintro rfl; simp at hj
  obtain ⟨g, off, e, hg, hc⟩ := h hl
  cases e
  have hi : j / K.k < l.length := (Nat.div_lt_iff_lt_mul K.pos).2 hj
  have e1 : j / K.k * K.k + j % K.k = j := Nat.div_add_mod' j K.k
  have := hc (j / K.k) hi (j % K.k) (Nat.mod_lt _ K.pos)
  rw [← K.row_at l (j / K.k) hi (j % K.k) (Nat.mod_lt _ K.pos), e1] at this
  have hadd : (⟨g, off, none⟩ : Addr).add j = ⟨g, off + (j / K.k) * K.k + j % K.k, none⟩ := by
    have hadd' : (⟨g, off, none⟩ : Addr).add j = ⟨g, off + j, none⟩ := by unfold Addr.add; split <;> simp_all
    rw [hadd', Nat.add_assoc, e1]
  rw [hadd, this]
  exact hu
theorem Kd.Rd.drop {w : World} {g off : Nat} {l : List α} (h : K.Rd w (some ⟨g, off, none⟩) l) (n : Nat) : K.Rd w (some ⟨g, off + n * K.k, none⟩) (l.drop n) := fun hl => by
  obtain ⟨g', off', e, hg, hc⟩ := h (by rintro rfl; simp at hl)
  cases e
  refine ⟨g, _, rfl, hg, fun i hi j hj => ?_⟩
  rw [List.length_drop] at hi
  have := hc (n + i) (by omega) j hj
  rw [List.getElem_drop, ← this]
  congr 2
  rw [Nat.add_mul]
  omega
theorem Kd.Rd.take {w : World} {A : Option Addr} {l : List α} (h : K.Rd w A l) (n : Nat) : K.Rd w A (l.take n) := fun hl => by
  obtain ⟨g', off', e, hg, hc⟩ := h (by rintro rfl; simp at hl)
  refine ⟨g', _, e, hg, fun i hi j hj => ?_⟩
  rw [List.length_take] at hi
  rw [List.getElem_take]
  exact hc i (by omega) j hj

/-- A row laid behind a row. -/
theorem Kd.append {E SL : TypeId} (F : K.Ty E SL) (W : World) (base : Nat) (v : Value) (n : Nat) (a b : List α) (ty : TypeId) (hn : n = a.length) (hown : W.ownsRow base E K.k v n (K.row a)) (A : Option Addr) (m c : Nat) (hm : m = b.length) (hA : A = none → m = 0 ∧ c = 0) (h2 : K.Rd W A b) (hb : n + m ≤ 1000000000) (hbase : base ≤ W.heap.size) :
    ∃ v' w', (Builtin.append_ #[SL, SL] ty #[v, .slice A m c]).run Try.prog W = .ok v' w' ∧ w'.ownsRow base E K.k v' (n + m) (K.row (a ++ b)) ∧ W.grownBy w' v.ownBlock ∧ (v'.ownBlock = v.ownBlock ∨ v'.ownBlock = some W.heap.size) := by
  subst hn
  subst hm
  obtain ⟨i0, z0, hi0, hz0, hz1, hz2, hz3⟩ := F.info
  cases A with
  | none =>
    obtain ⟨hn, rfl⟩ := hA rfl
    have e : b = [] := List.eq_nil_of_length_eq_zero hn
    subst e
    refine ⟨v, W, ?_, by simpa using hown, World.grownBy.refl W _, .inl rfl⟩
    rcases hown.2 with ⟨rfl, h0⟩ | ⟨g, cap, cur, rfl, _, _, hnc, _⟩
    · simp [Builtin.append_, run_underlying F.sl, sizeOf, typeInfo, hi0, Builtin.lenOf, Builtin.firstCells]
    · simp [Builtin.append_, run_underlying F.sl, sizeOf, typeInfo, hi0, Builtin.lenOf, Builtin.firstCells, hnc, storeCells]
  | some ad =>
    obtain ⟨v', w', e1, e2, e3, _, e5⟩ := run_append_own_at (P := Try.prog) W base SL ty E i0 z0 K.k i0.bytes F.sl hi0 hz0 hz1 rfl hz3 K.pos v a.length _ hown ad b.length c (K.row b) (K.row_len b) h2.news (K.row_cell b) (by simp only [maxLen]; omega) (Nat.le_trans (Nat.mul_le_mul hb hz2) (by decide)) hbase
    exact ⟨v', w', e1, by rw [K.row_append]; exact e2, e3, e5⟩
variable {ops : Array Oper} {o : Oper} {a : Act} {w : World} {Q : Exit → Act → World → Prop}
theorem val_of {w : World} {base : Nat} {e : TypeId} {size n : Nat} {v : Value} {xs : List Value} (h : w.ownsRow base e size v n xs) : ∃ A c, v = .slice A n c := by
  rcases h.2 with ⟨rfl, rfl⟩ | ⟨g, cap, cur, rfl, _⟩
  · exact ⟨_, _, rfl⟩
  · exact ⟨_, _, rfl⟩
/-- What append leaves: the row, and which blocks have turned. -/
def Kd.Grew (K : Kd α) (E : TypeId) (base : Nat) (v : Value) (n : Nat) (l : List α) (w : World) (v' : Value) (w' : World) : Prop :=
  w'.ownsRow base E K.k v' n (K.row l) ∧ w.grownBy w' v.ownBlock ∧ (v'.ownBlock = v.ownBlock ∨ v'.ownBlock = some w.heap.size) ∧ Below base w w'
theorem Kd.wpList_many {E SL : TypeId} (F : K.Ty E SL) {rest : List Oper} (hgd : o.guard = none) (s x : Operand) (ho : o.op = .call { callee := .builtin .append, args := #[s, x], argTypes := #[SL, SL] }) (base : Nat) (v : Value) (n : Nat) (l : List α) (hn : n = l.length) (hs : a.eval s = v) (hown : w.ownsRow base E K.k v n (K.row l))
    (A : Option Addr) (m c : Nat) (b : List α) (hm : m = b.length) (hA : A = none → m = 0 ∧ c = 0) (hx : a.eval x = .slice A m c) (h2 : K.Rd w A b) (hb : n + m ≤ 1000000000) (hbase : base ≤ w.heap.size)
    (h : ∀ A' c' w', K.Grew E base v (n + m) (l ++ b) w (.slice A' (n + m) c') w' → wpList Try.prog ops Q rest (a.put o.dst (.slice A' (n + m) c')) w') : wpList Try.prog ops Q (o :: rest) a w := by
  refine wpList_plain hgd fun _ hK => ?_
  obtain ⟨v', w', e1, e2, e3, e4⟩ := Kd.append F w base v n l b o.type hn hown A m c hm hA h2 hb hbase
  unfold Oper.wp execOp
  simp only [ho, resolve, invoke, builtin, Sem.run_bind, Sem.run_pure, Result.andThen_ok, List.map_toArray, List.map_cons, List.map_nil, hs, hx, e1]
  obtain ⟨A', c', rfl⟩ := val_of e2
  exact hK _ _ (h A' c' w' ⟨e2, e3, e4, (Below.refl base w).grown e3 hbase (own_ge hown)⟩)
theorem Kd.rd_block {w : World} {g : Nat} {E : TypeId} {r : α} (hg : w.heap[g]? = some (.cells (K.enc r).toArray E (0, 0))) : K.Rd w (some ⟨g, 0, none⟩) [r] := fun _ => by
  refine ⟨g, 0, rfl, lt_of_block hg, fun i hi j hj => ?_⟩
  have e0 : i = 0 := by simpa using hi
  subst e0
  have e : (0 + 0 * K.k + j) = j := by omega
  rw [e, cell_of_row w g j _ E (0, 0) hg]
  simp
theorem Kd.wpList_one {E SL : TypeId} (F : K.Ty E SL) {rest : List Oper} (hgd : o.guard = none) (s x : Operand) (ho : o.op = .call { callee := .builtin .append, args := #[s, x], argTypes := #[SL, SL] }) (base : Nat) (v : Value) (n : Nat) (l : List α) (hn : n = l.length) (hs : a.eval s = v)
    (hown : w.ownsRow base E K.k v n (K.row l)) (g : Nat) (r : α) (hx : a.eval x = .slice (some ⟨g, 0, none⟩) 1 1) (hg : w.heap[g]? = some (.cells (K.enc r).toArray E (0, 0))) (hb : n ≤ 100000000) (hbase : base ≤ w.heap.size)
    (h : ∀ A' c' w', K.Grew E base v (n + 1) (l ++ [r]) w (.slice A' (n + 1) c') w' → wpList Try.prog ops Q rest (a.put o.dst (.slice A' (n + 1) c')) w') : wpList Try.prog ops Q (o :: rest) a w :=
  Kd.wpList_many F hgd s x ho base v n l hn hs hown _ 1 1 [r] rfl (fun e => by cases e) hx (Kd.rd_block hg) (by omega) hbase h
/-- At a step of a region that draws its order. -/
theorem Kd.step_many {E SL : TypeId} (F : K.Ty E SL) {L : Act → World → Prop} {X : Prop} (hgd : o.guard = none) (s x : Operand) (ho : o.op = .call { callee := .builtin .append, args := #[s, x], argTypes := #[SL, SL] }) (base : Nat) (v : Value) (n : Nat) (l : List α) (hn : n = l.length) (hs : a.eval s = v) (hown : w.ownsRow base E K.k v n (K.row l))
    (A : Option Addr) (m c : Nat) (b : List α) (hm : m = b.length) (hA : A = none → m = 0 ∧ c = 0) (hx : a.eval x = .slice A m c) (h2 : K.Rd w A b) (hb : n + m ≤ 1000000000) (hbase : base ≤ w.heap.size)
    (h : ∀ A' c' w', K.Grew E base v (n + m) (l ++ b) w (.slice A' (n + m) c') w' → L (a.put o.dst (.slice A' (n + m) c')) w') : if Region.wanted o (yielded ops a.tmps) = true then Oper.wp Try.prog o a w L Q else X := by
  have hw : Region.wanted o (yielded ops a.tmps) = true := by simp [Region.wanted, hgd]
  rw [if_pos hw]
  obtain ⟨v', w', e1, e2, e3, e4⟩ := Kd.append F w base v n l b o.type hn hown A m c hm hA h2 hb hbase
  unfold Oper.wp execOp
  simp only [ho, resolve, invoke, builtin, Sem.run_bind, Sem.run_pure, Result.andThen_ok, List.map_toArray, List.map_cons, List.map_nil, hs, hx, e1]
  obtain ⟨A', c', rfl⟩ := val_of e2
  exact h A' c' w' ⟨e2, e3, e4, (Below.refl base w).grown e3 hbase (own_ge hown)⟩
theorem Kd.step_one {E SL : TypeId} (F : K.Ty E SL) {L : Act → World → Prop} {X : Prop} (hgd : o.guard = none) (s x : Operand) (ho : o.op = .call { callee := .builtin .append, args := #[s, x], argTypes := #[SL, SL] }) (base : Nat) (v : Value) (n : Nat) (l : List α) (hn : n = l.length) (hs : a.eval s = v)
    (hown : w.ownsRow base E K.k v n (K.row l)) (g : Nat) (r : α) (hx : a.eval x = .slice (some ⟨g, 0, none⟩) 1 1) (hg : w.heap[g]? = some (.cells (K.enc r).toArray E (0, 0))) (hb : n ≤ 100000000) (hbase : base ≤ w.heap.size)
    (h : ∀ A' c' w', K.Grew E base v (n + 1) (l ++ [r]) w (.slice A' (n + 1) c') w' → L (a.put o.dst (.slice A' (n + 1) c')) w') : if Region.wanted o (yielded ops a.tmps) = true then Oper.wp Try.prog o a w L Q else X :=
  Kd.step_many F hgd s x ho base v n l hn hs hown _ 1 1 [r] rfl (fun e => by cases e) hx (Kd.rd_block hg) (by omega) hbase h
/-- 'l = append(l, ..)' where l is a variable in a box. -/
theorem Kd.box_step {w V w7 : World} {lb base : Nat} {E T : TypeId} {v v' : Value} {n0 n : Nat} {l0 l : List α} (h1 : w.heap[lb]? = some (.cells #[v] T (0, 0))) (hlb : lb < base) (h2 : w.ownsRow base E K.k v n0 (K.row l0)) (hV : Below w.heap.size w V) (hG : K.Grew E base v n l V v' w7) :
    (w7.setCell ⟨lb, 0, none⟩ v').heap[lb]? = some (.cells #[v'] T (0, 0)) ∧ (w7.setCell ⟨lb, 0, none⟩ v').ownsRow base E K.k v' n (K.row l) ∧ Frm (fun x => x = lb ∨ v.ownBlock = some x) w (w7.setCell ⟨lb, 0, none⟩ v') ∧ Sub (fun x => x = lb ∨ v.ownBlock = some x) (fun x => x = lb ∨ v'.ownBlock = some x) w.heap.size := by
  obtain ⟨ho, hg, hat, -⟩ := hG
  have z1 := lt_of_block h1
  have zV := hV.size
  have hge := own_ge h2
  have hge7 := own_ge ho
  have hF : Frm (fun x => x = lb ∨ v.ownBlock = some x) w w7 := (frm_of_below hV).grown hg (fun k hk => .inl (.inr hk))
  have hq : w7.heap[lb]? = some (.cells #[v] T (0, 0)) := (hg.block _ (by omega) (fun e => by have := hge _ e.symm; omega)).trans ((hV.block _ z1).trans h1)
  refine ⟨one_setCell hq, ownsRow_setCell_other ho (fun e => by have := hge7 _ e; simp only at this; omega) _, hF.setCell (p := ⟨lb, 0, none⟩) (.inl (.inl rfl)) _, ?_⟩
  rintro x (rfl | hx)
  · exact .inl (.inl rfl)
  · rcases hat with e | e
    · exact .inl (.inr (by rw [← e]; exact hx))
    · rw [e] at hx
      simp only [Option.some.injEq] at hx
      exact .inr (by omega)
theorem Kd.ty_of {E SL : TypeId} {z : Value} {b : Nat} (h : (Try.prog.info? E).map (fun i => (i.zero, i.size, i.bytes)) = some (some z, K.k, b)) (hb : b ≤ 140000) (hz : z.cells.size = K.k) (sl : Try.prog.underlying SL = some (.slice E)) : K.Ty E SL := by
  obtain ⟨i, hi, e⟩ := Option.map_eq_some_iff.1 h
  simp only [Prod.mk.injEq] at e
  exact ⟨⟨i, z, hi, e.1, e.2.1, by omega, hz⟩, sl⟩
end

/-- A struct stored into a box of its own. -/
theorem wpList_row {ops : Array Oper} {rest : List Oper} {o : Oper} {a : Act} {w : World} {Q : Exit → Act → World → Prop} (hgd : o.guard = none) (ty : TypeId) (x y : Operand) (ho : o.op = .store ty x y)
    (g : Nat) (cells : Array Value) (hx : a.eval x = .pointer (some ⟨g, 0, none⟩)) (hy : a.eval y = .agg cells)
    (t : TypeId) (old : Array Value) (hg : w.heap[g]? = some (.cells old t (0, 0))) (k : Nat) (hi : (Try.prog.info? ty).map (·.size) = some k) (hk : cells.size = k)
    (hold : old.size = k) (h1 : cells.toList.all (·.oneCell') = true)
    (h : ∀ w', w'.heap[g]? = some (.cells cells t (0, 0)) → Frm (fun b => b = g) w w' → wpList Try.prog ops Q rest (a.put o.dst undef) w') : wpList Try.prog ops Q (o :: rest) a w :=
  wpList_store_row hgd ty x y ho g cells hx hy t old hg (by rw [hk]; exact hi) (by rw [hk]; exact hold) (by rw [← Array.all_toList]; exact h1) (h _ (setRow_heap w g old cells t _ hg) ⟨rfl, rfl, rfl, by simp [World.setRow], fun k _ hn => setRow_other w g k cells hn⟩)

/-- Where a part of a row lies. -/
def cutK (s : Nat) (A : Option Addr) (c k : Nat) : Option Addr := if c = k then A else A.map (·.add (k * s))
section
variable {α : Type} {K : Kd α}
theorem Kd.slice_lh {E SL : TypeId} (F : K.Ty E SL) (A : Option Addr) (n c : Nat) (l h : Int) (h0 : 0 ≤ l) (h1 : l ≤ h) (h2 : h ≤ c) (w : World) :
    (Instr.slice SL (.slice A n c) (some (.int .i64 l)) (some (.int .i64 h)) none).run Try.prog w = .ok (.slice (cutK K.k A c l.toNat) (h.toNat - l.toNat) (c - l.toNat)) w := by
  obtain ⟨i0, z0, hi0, hz0, hz1, hz2, hz3⟩ := F.info
  have e : Try.prog.elem SL = E := by simp [Program.elem, F.sl]
  rw [run_slice_lh w SL A n c (by rw [e]; exact F.sl) .i64 .i64 l h h0 h1 h2, e]
  simp [sizeOf, typeInfo, hi0, hz1, cutK, sliced]
theorem Kd.slice_to {E SL : TypeId} (F : K.Ty E SL) (A : Option Addr) (n c : Nat) (h : Int) (h0 : 0 ≤ h) (h2 : h ≤ c) (w : World) :
    (Instr.slice SL (.slice A n c) none (some (.int .i64 h)) none).run Try.prog w = .ok (.slice A h.toNat c) w := by
  obtain ⟨i0, z0, hi0, hz0, hz1, hz2, hz3⟩ := F.info
  have e : Try.prog.elem SL = E := by simp [Program.elem, F.sl]
  rw [run_slice_h w SL A n c (by rw [e]; exact F.sl) .i64 h h0 h2, e]
  have ez : A.map (fun x => x.add 0) = A := by
    cases A with
    | none => rfl
    | some x => obtain ⟨g, o, r⟩ := x; cases r <;> simp [Addr.add]
  simp [sizeOf, typeInfo, hi0, hz1, sliced, ez]
theorem Kd.slice_from {E SL : TypeId} (F : K.Ty E SL) (A : Option Addr) (n c : Nat) (l : Int) (h0 : 0 ≤ l) (h1 : l ≤ n) (w : World) :
    (Instr.slice SL (.slice A n c) (some (.int .i64 l)) none none).run Try.prog w = .ok (.slice (cutK K.k A c l.toNat) (n - l.toNat) (c - l.toNat)) w := by
  obtain ⟨i0, z0, hi0, hz0, hz1, hz2, hz3⟩ := F.info
  have e : Try.prog.elem SL = E := by simp [Program.elem, F.sl]
  rw [run_slice_l w SL A n c (by rw [e]; exact F.sl) .i64 l h0 h1, e]
  simp [sizeOf, typeInfo, hi0, hz1, cutK, sliced]
theorem Kd.Rd.cut {w : World} {A : Option Addr} {l : List α} (h : K.Rd w A l) (c k : Nat) (hc : l.length ≤ c) : K.Rd w (cutK K.k A c k) (l.drop k) := fun hl => by
  have hk : k < l.length := by
    rcases Nat.lt_or_ge k l.length with e | e
    · exact e
    · exact absurd (List.drop_eq_nil_of_le e) hl
  obtain ⟨g, off, rfl, -⟩ := h (by rintro rfl; cases hk)
  have e : cutK K.k (some ⟨g, off, none⟩) c k = some ⟨g, off + k * K.k, none⟩ := by
    unfold cutK
    rw [if_neg (by omega), Option.map_some]
    congr 1
    unfold Addr.add
    split <;> simp_all
  rw [e]
  exact h.drop k hl
end

end Go.Proofs.Ytkgjogkbdkdogaa

namespace Go.Proofs.Ytkgjogkbdkdogaa
open Go.RowKit
set_option maxRecDepth 100000

set_option maxHeartbeats 1000000 in
theorem lawpair_any (x : Pr) (w : World) : Calls Try.prog 25 #[.agg #[.int .u64 (u x.p.a.hi), .int .u64 (u x.p.a.lo), .bool x.p.a.v6, .int .i64 x.p.n, .int .i64 x.v]] w fun e w' => e = .returned (.agg #[.int .u64 (u x.p.a.hi), .int .u64 (u x.p.a.lo), .bool x.p.a.v6, .int .i64 x.p.n, .int .i64 x.v]) ∧ Below w.heap.size w w' := by
  go_enter Try.func25, Try.ntmps25
  go_wp2
  refine bodyPost_ret (v := .agg #[.int .u64 (u x.p.a.hi), .int .u64 (u x.p.a.lo), .bool x.p.a.v6, .int .i64 x.p.n, .int .i64 x.v]) (by simp [*, results, Try.results25, go_sem] <;> rfl) rfl ⟨rfl, ?_⟩
  go_grown
/-- A fresh row of pairs of the document's kind. -/
def RefPost (w : World) (l : List Pr) (e : Ending) (w' : World) : Prop := ∃ v, e = .returned v ∧ w'.ownsRow w.heap.size 67 5 v l.length (prv l) ∧ Below w.heap.size w w'
theorem take_one (l : List Pr) {k : Nat} (h : k < l.length) : l.take (k + 1) = l.take k ++ [l[k]] := List.take_succ_eq_append_getElem h

set_option maxHeartbeats 2000000 in
theorem pairs_any (b0 : Nat) (v : Value) (l : List Pr) (w : World) (h : w.ownsRow b0 54 5 v l.length (prv l)) (hb : l.length ≤ 1000000000) :
    Calls Try.prog 11 #[v] w (RefPost w l) := by
  have H := Lib.hid h
  obtain ⟨A, c, rfl, -⟩ := own_val h
  clear h
  go_enter Try.func11, Try.ntmps11
  go_wp2_with fail
  go_loopw [3, 4] (fun o i wr => ∃ k : Nat, k ≤ l.length ∧ i = .int .i64 k ∧ wr.ownsRow w.heap.size 67 5 o k (prv (l.take k)) ∧ Below w.heap.size w wr) (fun _ i _ => l.length - (intOf i).toNat)
  case atStart => exact ⟨0, Nat.zero_le _, rfl, World.ownsRow_nil _ _ _ _, Below.refl _ _⟩
  case round =>
    obtain ⟨k, hk, rfl, hown, hB⟩ := hrel
    have HO := Lib.hid hown
    obtain ⟨A2, c2, rfl, -⟩ := own_val hown
    clear hown
    by_cases hlt : k < l.length
    · obtain ⟨g, cg, eg, -, -, hcc⟩ := row_cell (own_fresh H.out hB) rfl hlt
      simp only [Value.slice.injEq, true_and] at eg
      obtain ⟨rfl, rfl⟩ := eg
      have q0 : wr.cell? ⟨g, k * 5, none⟩ = some (.int .u64 (u l[k].p.a.hi)) := hcc 0 (by omega)
      have q1 : wr.cell? ⟨g, k * 5 + 1, none⟩ = some (.int .u64 (u l[k].p.a.lo)) := hcc 1 (by omega)
      have q2 : wr.cell? ⟨g, k * 5 + 2, none⟩ = some (.bool l[k].p.a.v6) := hcc 2 (by omega)
      have q3 : wr.cell? ⟨g, k * 5 + 3, none⟩ = some (.int .i64 l[k].p.n) := hcc 3 (by omega)
      have q4 : wr.cell? ⟨g, k * 5 + 4, none⟩ = some (.int .i64 l[k].v) := hcc 4 (by omega)
      have HT := Lib.hid (take_one l hlt)
      have hz := hB.size
      obtain ⟨y, hy⟩ : ∃ y, l[k] = y := ⟨_, rfl⟩
      rw [hy] at q0 q1 q2 q3 q4 HT
      have hlk : k ≤ 1000000000 ∧ k = (l.take k).length := by rw [List.length_take]; omega
      have HL := Lib.hid hlk
      clear hcc hy hlk
      go_wp2_with fail
      refine (lawpair_any y _).mono ?_
      rintro e w1 ⟨rfl, hw1⟩
      have b1 : Below w.heap.size w w1 := hB.trans (hw1.mono hz)
      have HO1 := Lib.hid (own_fresh HO.out hw1)
      have z1 := b1.size
      clear hw1 q0 q1 q2 q3 q4 HO
      go_wp2_with (
        at_builtin
        refine wpList_five1 five_ref rfl (.tmp 11) (.tmp 17) rfl w.heap.size _ k (l.take k) HL.out.2 (by rfl) (HO1.out.alloc _) w1.heap.size y (by rfl) (heap_alloc_new w1 _) HL.out.1 (by simp; omega) ?_
        intro v2 w2 ho2 hb2
        have b2 : Below w.heap.size w w2 := b1.trans (Below.trans (by go_grown) hb2)
        have HO2 := Lib.hid ho2
        obtain ⟨A5, c5, rfl, -⟩ := own_val ho2
        clear ho2 hb2
        )
      go_roundw
      case rel => exact ⟨k + 1, by omega, by go_num, by rw [HT.out]; exact HO2.out, b2⟩
      case measure => simp [intOf]; omega
    · obtain rfl : k = l.length := by omega
      have e := HO.out
      rw [List.take_length] at e
      have HE := Lib.hid e
      clear e
      have t1 : decide ((l.length : Int) < (l.length : Int)) = false := by simp
      go_wp2
      go_ret
      exact ⟨_, rfl, HE.out, hB⟩

set_option maxHeartbeats 2000000 in
theorem pairs_yes (b1 b2 : Nat) (v1 v2 : Value) (l : List Pr) (w : World) (h1 : w.ownsRow b1 67 5 v1 l.length (prv l)) (h2 : w.ownsRow b2 67 5 v2 l.length (prv l)) (hb : l.length ≤ 1000000000) :
    Calls Try.prog 10 #[v1, v2] w fun e w' => e = .returned (.bool true) ∧ Below w.heap.size w w' := by
  have H1 := Lib.hid h1
  have H2 := Lib.hid h2
  obtain ⟨A1, c1, rfl, -⟩ := own_val h1
  obtain ⟨A2, c2, rfl, -⟩ := own_val h2
  clear h1 h2
  go_enter Try.func10, Try.ntmps10
  go_wp2_with fail
  go_loopw [5] (fun i wr => ∃ k : Nat, k ≤ l.length ∧ i = .int .i64 k ∧ Below w.heap.size w wr) (fun i _ => l.length - (intOf i).toNat)
  case atStart => exact ⟨0, Nat.zero_le _, rfl, Below.refl _ _⟩
  case round =>
    obtain ⟨k, hk, rfl, hB⟩ := hrel
    by_cases hlt : k < l.length
    · have hlt' : (k : Int) < (l.length : Int) := by omega
      have hk0 : (0 : Int) ≤ (k : Int) := by omega
      have hk9 : (k : Int) + 1 ≤ 1000000000 := by omega
      obtain ⟨g, cg, eg, -, hg, hcc⟩ := row_cell (own_fresh H1.out hB) rfl hlt
      simp only [Value.slice.injEq, true_and] at eg
      obtain ⟨rfl, rfl⟩ := eg
      obtain ⟨g', cg', eg', -, hg', hcc'⟩ := row_cell (own_fresh H2.out hB) rfl hlt
      simp only [Value.slice.injEq, true_and] at eg'
      obtain ⟨rfl, rfl⟩ := eg'
      have a0 : wr.cell? ⟨g, k * 5, none⟩ = some (.int .u64 (u l[k].p.a.hi)) := hcc 0 (by omega)
      have a1 : wr.cell? ⟨g, k * 5 + 1, none⟩ = some (.int .u64 (u l[k].p.a.lo)) := hcc 1 (by omega)
      have a2 : wr.cell? ⟨g, k * 5 + 2, none⟩ = some (.bool l[k].p.a.v6) := hcc 2 (by omega)
      have a3 : wr.cell? ⟨g, k * 5 + 3, none⟩ = some (.int .i64 l[k].p.n) := hcc 3 (by omega)
      have a4 : wr.cell? ⟨g, k * 5 + 4, none⟩ = some (.int .i64 l[k].v) := hcc 4 (by omega)
      have b0 : wr.cell? ⟨g', k * 5, none⟩ = some (.int .u64 (u l[k].p.a.hi)) := hcc' 0 (by omega)
      have b1 : wr.cell? ⟨g', k * 5 + 1, none⟩ = some (.int .u64 (u l[k].p.a.lo)) := hcc' 1 (by omega)
      have b2 : wr.cell? ⟨g', k * 5 + 2, none⟩ = some (.bool l[k].p.a.v6) := hcc' 2 (by omega)
      have b3 : wr.cell? ⟨g', k * 5 + 3, none⟩ = some (.int .i64 l[k].p.n) := hcc' 3 (by omega)
      have b4 : wr.cell? ⟨g', k * 5 + 4, none⟩ = some (.int .i64 l[k].v) := hcc' 4 (by omega)
      clear hcc hcc'
      generalize l[k] = r at *
      obtain ⟨W, rfl⟩ : ∃ W, W = wr := ⟨_, rfl⟩
      have hz := hB.size
      have A0 := fun x : Later W.heap.size W => (x.cell (p := ⟨g, k * 5, none⟩) hg).trans a0
      have A1 := fun x : Later W.heap.size W => (x.cell (p := ⟨g, k * 5 + 1, none⟩) hg).trans a1
      have A2 := fun x : Later W.heap.size W => (x.cell (p := ⟨g, k * 5 + 2, none⟩) hg).trans a2
      have A3 := fun x : Later W.heap.size W => (x.cell (p := ⟨g, k * 5 + 3, none⟩) hg).trans a3
      have A4 := fun x : Later W.heap.size W => (x.cell (p := ⟨g, k * 5 + 4, none⟩) hg).trans a4
      have B0 := fun x : Later W.heap.size W => (x.cell (p := ⟨g', k * 5, none⟩) hg').trans b0
      have B1 := fun x : Later W.heap.size W => (x.cell (p := ⟨g', k * 5 + 1, none⟩) hg').trans b1
      have B2 := fun x : Later W.heap.size W => (x.cell (p := ⟨g', k * 5 + 2, none⟩) hg').trans b2
      have B3 := fun x : Later W.heap.size W => (x.cell (p := ⟨g', k * 5 + 3, none⟩) hg').trans b3
      have B4 := fun x : Later W.heap.size W => (x.cell (p := ⟨g', k * 5 + 4, none⟩) hg').trans b4
      clear a0 a1 a2 a3 a4 b0 b1 b2 b3 b4
      go_wp2_with fail
      refine region_later W.heap.size (by kernel_rfl) (by kernel_rfl) ?_
      repeat (go_big_quiet_step (fail))
      refine wpQuiet_nil ?_
      intro x
      have hx : Below w.heap.size w x.at := hB.trans (x.below.mono hz)
      clear A0 A1 A2 A3 A4 B0 B1 B2 B3 B4
      generalize x.at = w2 at *
      clear x
      go_wp2_with fail
      refine ⟨⟨k + 1, by omega, by go_num, hx⟩, by simp [intOf]; omega⟩
    · obtain rfl : k = l.length := by omega
      have hlt' : ¬ (l.length : Int) < (l.length : Int) := by omega
      go_wp2
      go_ret
      exact ⟨rfl, hB⟩

end Go.Proofs.Ytkgjogkbdkdogaa
