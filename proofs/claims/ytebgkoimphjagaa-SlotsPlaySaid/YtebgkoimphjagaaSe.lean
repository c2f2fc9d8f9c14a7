/-
  Plain facts of places that are taken, given back and swapped. No condition.
-/
import Derived.Test.YtebgkoimphjagaaSa
namespace Go.Proofs.Ytebgkoimphjagaa
open Go.RowKit
set_option maxRecDepth 100000

theorem atN_set (s : Sl) (i : Nat) (p : Plc) (h : i < s.pl.length) (j : Nat) : (s.set i p).atN j = if j = i then p else s.atN j := by
  unfold Sl.set Sl.atN
  simp only [List.getD_eq_getElem?_getD]
  by_cases hj : j = i
  · subst hj
    rw [if_pos rfl, List.getElem?_set_self h]
    rfl
  · rw [if_neg hj, List.getElem?_set_ne (fun e => hj e.symm)]
theorem atN_outS (s : Sl) (j : Nat) : s.out.atN j = s.atN j := by
  unfold Sl.out
  split
  · split
    · rfl
    · unfold Sl.atN
      simp only [List.getD_eq_getElem?_getD]
      rcases Nat.lt_trichotomy j s.pl.length with h | h | h
      · rw [List.getElem?_append_left h]
      · subst h
        rw [List.getElem?_append_right (Nat.le_refl _)]
        simp
      · rw [List.getElem?_eq_none (by simp; omega), List.getElem?_eq_none (by omega)]
  · rfl
theorem usedK_same {s s' : Sl} (h : ∀ j, (s'.atN j).is = (s.atN j).is) (k : Nat) : s'.usedK k = s.usedK k := by
  unfold Sl.usedK
  congr 1
  funext i
  exact h i
theorem usedK_flip {s s' : Sl} {i : Nat} (h : ∀ j, j ≠ i → (s'.atN j).is = (s.atN j).is) (h0 : (s.atN i).is = false) (h1 : (s'.atN i).is = true) (k : Nat) : (s'.usedK k).length = (s.usedK k).length + if i < k then 1 else 0 := by
  induction k with
  | zero => simp [Sl.usedK]
  | succ k ih =>
    rw [usedK_succ, usedK_succ]
    by_cases e : k = i
    · subst e
      rw [h0, h1]
      simp [ih]
    · rw [h k e]
      have e2 : (if i < k + 1 then (1 : Nat) else 0) = if i < k then 1 else 0 := by
        by_cases e3 : i < k
        · rw [if_pos e3, if_pos (by omega)]
        · rw [if_neg e3, if_neg (by omega)]
      rw [e2]
      split
      · rw [List.length_append, List.length_append, ih]; omega
      · exact ih
theorem nxt_free {s : Sl} (h : s.Ok) {i : Nat} (hi : s.nxt = some i) : (s.atN i).is = false ∧ i < s.most := by
  have hlt := nxt_lt h hi
  have hp := h.pl
  unfold Sl.nxt at hi
  split at hi
  · split at hi
    · cases hi
    · simp only [Option.some.injEq] at hi
      subst hi
      rw [atN_out s _ (Nat.le_refl _)]
      exact ⟨rfl, by omega⟩
  · rename_i h1
    simp only [Option.some.injEq] at hi
    subst hi
    have := (h.fr _).1 (last_mem h1)
    exact ⟨this.2, by omega⟩
theorem take_none {s : Sl} (h : s.nxt = none) (x : Int) : s.take x = s := by unfold Sl.take; rw [h]
theorem take_atN {s : Sl} (h : s.Ok) {i : Nat} (hi : s.nxt = some i) (x : Int) (j : Nat) : (s.take x).atN j = if j = i then ⟨x, true⟩ else s.atN j := by
  unfold Sl.take
  rw [hi]
  simp only
  rw [atN_set _ _ _ (nxt_lt h hi), atN_outS]
theorem sltake_ok {s : Sl} (h : s.Ok) (x : Int) : (s.take x).Ok := by
  cases hi : s.nxt with
  | none => rw [take_none hi]; exact h
  | some i =>
    have hat := take_atN h hi x
    have hlt := nxt_lt h hi
    have hfree := nxt_free h hi
    have hflip : ∀ k, ((s.take x).usedK k).length = (s.usedK k).length + if i < k then 1 else 0 := usedK_flip (fun j hj => by rw [hat, if_neg hj]) hfree.1 (by rw [hat, if_pos rfl])
    have hz : ∀ j, ((s.take x).atN j).is = false → ((s.take x).atN j).x = 0 := fun j hj => by
      rw [hat] at hj ⊢
      split at hj
      · cases hj
      · rename_i e; rw [if_neg e]; exact h.zero j hj
    have hc := h.cnt
    have hs : s.take x = s.out.set i ⟨x, true⟩ := by unfold Sl.take; rw [hi]
    have hpl : (s.take x).pl.length = s.out.pl.length := by rw [hs]; simp [Sl.set]
    have hfr : (s.take x).fr = s.out.fr := by rw [hs]; rfl
    have hmo : (s.take x).most = s.most := by rw [hs]; simp only [Sl.set, Sl.out]; split <;> (try split) <;> rfl
    have hi' := hi
    unfold Sl.nxt at hi'
    split at hi'
    · rename_i h1
      split at hi'
      · cases hi'
      · rename_i h2
        simp only [Option.some.injEq] at hi'
        have ho : s.out = { s with pl := s.pl ++ [plz] } := by unfold Sl.out; rw [if_pos h1, if_neg h2]
        rw [ho] at hpl hfr
        simp only [List.length_append, List.length_cons, List.length_nil] at hpl
        simp only [h1] at hfr
        have hp := h.pl
        have hu : s.used = s.usedK s.pl.length := rfl
        refine ⟨by rw [hmo]; exact h.most, by omega, fun j => ?_, by rw [hfr]; exact List.nodup_nil, hz, ?_⟩
        · rw [hfr]
          constructor
          · intro e; cases e
          · rintro ⟨e1, e2⟩
            rw [hat] at e2
            split at e2
            · cases e2
            · rename_i e3
              have := (h.fr j).2 ⟨by omega, e2⟩
              rw [h1] at this
              cases this
        · show (s.take x).fr.length + ((s.take x).usedK (s.take x).pl.length).length = _
          rw [hfr, hflip, hpl, usedK_succ, if_neg (by rw [atN_out s _ (Nat.le_refl _)]; simp [plz]), if_pos (by omega)]
          rw [h1] at hc
          rw [hu] at hc
          simp only [List.length_nil] at hc ⊢
          omega
    · rename_i h1
      simp only [Option.some.injEq] at hi'
      have ho : s.out = { s with fr := s.fr.dropLast } := by unfold Sl.out; rw [if_neg h1]
      rw [ho] at hpl hfr
      simp only at hpl hfr
      have hcat : s.fr = s.fr.dropLast ++ [i] := by
        have e := (List.dropLast_concat_getLast h1).symm
        have e2 : s.fr.getLast h1 = i := by
          rw [← hi', List.getLastD_eq_getLast?, List.getLast?_eq_some_getLast h1]
          rfl
        rw [e2] at e
        exact e
      have hnd := h.once
      rw [hcat] at hnd
      have hnm : i ∉ s.fr.dropLast := by
        intro e
        rw [List.nodup_append] at hnd
        exact hnd.2.2 i e i (by simp) rfl
      have hin : i < s.pl.length := by
        have := (h.fr i).1 (by rw [hcat]; simp)
        exact this.1
      have hu : s.used = s.usedK s.pl.length := rfl
      refine ⟨by rw [hmo]; exact h.most, by rw [hpl, hmo]; exact h.pl, fun j => ?_, by rw [hfr]; exact (List.nodup_append.1 hnd).1, hz, ?_⟩
      · rw [hfr, hpl, hat]
        constructor
        · intro e
          have hj : j ≠ i := fun e2 => hnm (e2 ▸ e)
          rw [if_neg hj]
          exact (h.fr j).1 (by rw [hcat]; simp [e])
        · rintro ⟨e1, e2⟩
          split at e2
          · cases e2
          · rename_i e3
            have := (h.fr j).2 ⟨e1, e2⟩
            rw [hcat] at this
            simpa [e3] using this
      · show (s.take x).fr.length + ((s.take x).usedK (s.take x).pl.length).length = _
        rw [hfr, hpl, hflip, if_pos hin]
        have hl := congrArg List.length hcat
        rw [List.length_append, List.length_singleton] at hl
        rw [hu] at hc
        omega
theorem sltake_len {s : Sl} (x : Int) : (s.take x).len = s.len + if s.took = true then 1 else 0 := by
  cases hi : s.nxt with
  | none =>
    rw [take_none hi]
    have : s.took = false := by unfold Sl.took; rw [hi]; rfl
    rw [this]
    simp
  | some i =>
    have : s.took = true := by unfold Sl.took; rw [hi]; rfl
    rw [this, if_pos rfl]
    have hs : s.take x = s.out.set i ⟨x, true⟩ := by unfold Sl.take; rw [hi]
    rw [hs]
    unfold Sl.nxt at hi
    unfold Sl.len Sl.set Sl.out
    split at hi
    · rename_i h1
      split at hi
      · cases hi
      · rename_i h2
        rw [if_pos h1, if_neg h2]
        simp
        omega
    · rename_i h1
      rw [if_neg h1]
      have : 0 < s.fr.length := List.length_pos_iff.2 h1
      simp
      omega
theorem took_iff {s : Sl} (h : s.Ok) : s.took = true ↔ s.len < s.most := by
  have hp := h.pl
  unfold Sl.took Sl.nxt Sl.len
  split
  · rename_i h1
    rw [h1]
    split
    · simp; omega
    · simp; omega
  · rename_i h1
    have : 0 < s.fr.length := List.length_pos_iff.2 h1
    simp
    omega
theorem give_atN {s : Sl} {i : Int} (hh : s.has i = true) (j : Nat) : (s.give i).atN j = if j = i.toNat then plz else s.atN j := by
  have := has_bd hh
  unfold Sl.give
  rw [if_pos hh]
  exact atN_set s i.toNat plz this.2.1 j
theorem give_no {s : Sl} {i : Int} (hh : s.has i = false) : s.give i = s := by unfold Sl.give; rw [if_neg (by simp [hh])]
theorem swap_no {s : Sl} {i : Int} (hh : s.has i = false) (x : Int) : s.swap i x = s := by unfold Sl.swap; rw [if_neg (by simp [hh])]
theorem give_ok {s : Sl} (h : s.Ok) (i : Int) : (s.give i).Ok := by
  cases hh : s.has i
  · rw [give_no hh]; exact h
  · obtain ⟨i0, i1, i2⟩ := has_bd hh
    have hat := give_atN hh
    have hflip : ∀ k, (s.usedK k).length = ((s.give i).usedK k).length + if i.toNat < k then 1 else 0 := usedK_flip (fun j hj => by rw [hat, if_neg hj]) (by rw [hat, if_pos rfl]; rfl) i2
    have hs : s.give i = { s.set i.toNat plz with fr := s.fr ++ [i.toNat] } := by unfold Sl.give; rw [if_pos hh]
    have hpl : (s.give i).pl.length = s.pl.length := by rw [hs]; simp [Sl.set]
    have hfr : (s.give i).fr = s.fr ++ [i.toNat] := by rw [hs]
    have hmo : (s.give i).most = s.most := by rw [hs]; rfl
    have hnm : i.toNat ∉ s.fr := fun e => by have := ((h.fr _).1 e).2; rw [i2] at this; cases this
    have hc := h.cnt
    refine ⟨by rw [hmo]; exact h.most, by rw [hmo, hpl]; exact h.pl, fun j => ?_, ?_, fun j hj => ?_, ?_⟩
    · rw [hfr, hpl, hat, List.mem_append, h.fr j]
      by_cases e : j = i.toNat
      · subst e
        simp [i1, plz]
      · simp [e]
    · rw [hfr, List.nodup_append]
      refine ⟨h.once, by simp, fun a ha b hb => ?_⟩
      simp at hb
      subst hb
      exact fun e => hnm (e ▸ ha)
    · rw [hat] at hj ⊢
      split
      · rfl
      · rename_i e; rw [if_neg e] at hj; exact h.zero j hj
    · show (s.give i).fr.length + ((s.give i).usedK (s.give i).pl.length).length = _
      have := hflip s.pl.length
      rw [if_pos i1] at this
      rw [hfr, hpl, List.length_append, List.length_singleton]
      have hu : s.used = s.usedK s.pl.length := rfl
      rw [hu] at hc
      omega
theorem give_len {s : Sl} (i : Int) : (s.give i).len = s.len - if s.has i = true then 1 else 0 := by
  cases hh : s.has i
  · rw [give_no hh]; simp
  · unfold Sl.give
    rw [if_pos hh, if_pos rfl]
    unfold Sl.len Sl.set
    simp
    omega
theorem swap_atN {s : Sl} {i : Int} (hh : s.has i = true) (x : Int) (j : Nat) : (s.swap i x).atN j = if j = i.toNat then ⟨x, true⟩ else s.atN j := by
  have := has_bd hh
  unfold Sl.swap
  rw [if_pos hh]
  exact atN_set s i.toNat _ this.2.1 j
theorem swap_is {s : Sl} (i x : Int) (j : Nat) : ((s.swap i x).atN j).is = (s.atN j).is := by
  cases hh : s.has i
  · rw [swap_no hh]
  · rw [swap_atN hh]
    split
    · rename_i e; subst e; exact (has_bd hh).2.2.symm
    · rfl
theorem swap_ok {s : Sl} (h : s.Ok) (i x : Int) : (s.swap i x).Ok := by
  have his := swap_is (s := s) i x
  cases hh : s.has i
  · rw [swap_no hh]; exact h
  · obtain ⟨i0, i1, i2⟩ := has_bd hh
    have hs : s.swap i x = s.set i.toNat ⟨x, true⟩ := by unfold Sl.swap; rw [if_pos hh]
    have hpl : (s.swap i x).pl.length = s.pl.length := by rw [hs]; simp [Sl.set]
    have hfr : (s.swap i x).fr = s.fr := by rw [hs]; rfl
    have hmo : (s.swap i x).most = s.most := by rw [hs]; rfl
    refine ⟨by rw [hmo]; exact h.most, by rw [hmo, hpl]; exact h.pl, fun j => by rw [hfr, hpl, his]; exact h.fr j, by rw [hfr]; exact h.once, fun j hj => ?_, ?_⟩
    · rw [swap_atN hh] at hj ⊢
      split
      · rename_i e; rw [if_pos e] at hj; cases hj
      · rename_i e; rw [if_neg e] at hj; exact h.zero j hj
    · show (s.swap i x).fr.length + ((s.swap i x).usedK (s.swap i x).pl.length).length = _
      rw [hfr, hpl, usedK_same his]
      exact h.cnt
theorem swap_len {s : Sl} (i x : Int) : (s.swap i x).len = s.len := by
  unfold Sl.swap
  split
  · unfold Sl.len Sl.set; simp
  · rfl
theorem swap_used {s : Sl} (i x : Int) : (s.swap i x).used = s.used := by
  have h := usedK_same (swap_is (s := s) i x) s.pl.length
  have hpl : (s.swap i x).pl.length = s.pl.length := by unfold Sl.swap; split <;> simp [Sl.set]
  unfold Sl.used
  rw [hpl]
  exact h
theorem take_most (s : Sl) (x : Int) : (s.take x).most = s.most := by
  unfold Sl.take
  split
  · rfl
  · simp only [Sl.set, Sl.out]; split <;> (try split) <;> rfl
theorem give_most (s : Sl) (i : Int) : (s.give i).most = s.most := by unfold Sl.give; split <;> rfl
theorem swap_most (s : Sl) (i x : Int) : (s.swap i x).most = s.most := by unfold Sl.swap; split <;> rfl
theorem at_nat (s : Sl) (i : Nat) : s.at i = if (s.atN i).is = true then (s.atN i).x else 0 := by
  unfold Sl.at
  rw [has_nat, Int.toNat_natCast]

end Go.Proofs.Ytebgkoimphjagaa
