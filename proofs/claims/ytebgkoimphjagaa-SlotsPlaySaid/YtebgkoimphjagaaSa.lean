/-
  A row of places in memory: what lies where, and what is taken, given back and swapped, as plain functions. No condition.
-/
import Derived.Test.YtebgkoimphjagaaRk
namespace Go.Proofs.Ytebgkoimphjagaa
open Go.RowKit
set_option maxRecDepth 100000

/-- A place. -/
structure Plc where
  x : Int
  is : Bool
deriving DecidableEq
def plz : Plc := ⟨0, false⟩
def plE (p : Plc) : List Value := [.int .i64 p.x, .bool p.is]
def KPl : Kd Plc := ⟨plE, 2, by decide, fun _ => rfl, fun x u h => by simp [plE] at h; rcases h with rfl | rfl <;> rfl⟩
def natE (i : Nat) : List Value := [.int .i64 (i : Int)]
def KN : Kd Nat := ⟨natE, 1, by decide, fun _ => rfl, fun x u h => by simp [natE] at h; subst h; rfl⟩
/-- Places, those that are free of them, and how many there may be. -/
structure Sl where
  most : Nat
  pl : List Plc
  fr : List Nat
/-- It lies at block t. -/
def SlA (w : World) (t : Nat) (vP vF : Value) (s : Sl) : Prop :=
  w.heap[t]? = some (.cells #[.int .i64 s.most, vP, vF] 46 (0, 0)) ∧ w.ownsRow 0 55 2 vP s.pl.length (KPl.row s.pl) ∧ w.ownsRow 0 3 1 vF s.fr.length (KN.row s.fr)
def SlS (w : World) (t : Nat) (S : Nat → Prop) (s : Sl) : Prop := ∃ vP vF, S = foot t vP vF ∧ SlA w t vP vF s

theorem SlA.frm {w w' : World} {t : Nat} {vP vF : Value} {s : Sl} {S : Nat → Prop} (h : SlA w t vP vF s) (hf : Frm S w w') (hn : ∀ b, foot t vP vF b → ¬ S b) : SlA w' t vP vF s :=
  ⟨(hf.block t (lt_of_block h.1) (hn t (.inl rfl))).trans h.1, own_block h.2.1 fun b hb hl => hf.block b hl (hn b (.inr (.inl hb))), own_block h.2.2 fun b hb hl => hf.block b hl (hn b (.inr (.inr hb)))⟩
theorem SlA.keep {w w' : World} {t : Nat} {vP vF : Value} {s : Sl} (h : SlA w t vP vF s) (hb : Below w.heap.size w w') : SlA w' t vP vF s := h.frm (S := fun _ => False) (frm_of_below hb) (fun _ _ h => h)
theorem SlS.keep {w w' : World} {t : Nat} {S : Nat → Prop} {s : Sl} (h : SlS w t S s) (hb : Below w.heap.size w w') : SlS w' t S s := by
  obtain ⟨vP, vF, rfl, h⟩ := h
  exact ⟨vP, vF, rfl, h.keep hb⟩
theorem SlA.lt {w : World} {t : Nat} {vP vF : Value} {s : Sl} (h : SlA w t vP vF s) : ∀ b, foot t vP vF b → b < w.heap.size := by
  rintro b (rfl | hb | hb)
  · exact lt_of_block h.1
  · exact (h.2.1.lt b hb).2
  · exact (h.2.2.lt b hb).2
theorem SlS.lt {w : World} {t : Nat} {S : Nat → Prop} {s : Sl} (h : SlS w t S s) : ∀ b, S b → b < w.heap.size := by
  obtain ⟨vP, vF, rfl, h⟩ := h
  exact h.lt
theorem SlS.frm {w w' : World} {t : Nat} {S S' : Nat → Prop} {s : Sl} (h : SlS w t S s) (hf : Frm S' w w') (hn : ∀ b, S b → ¬ S' b) : SlS w' t S s := by
  obtain ⟨vP, vF, rfl, h⟩ := h
  exact ⟨vP, vF, rfl, h.frm hf hn⟩
theorem SlS.at {w : World} {t : Nat} {S : Nat → Prop} {s : Sl} (h : SlS w t S s) : S t := by
  obtain ⟨vP, vF, rfl, h⟩ := h
  exact .inl rfl
theorem SlA.head {w : World} {t : Nat} {vP vF : Value} {s : Sl} (h : SlA w t vP vF s) :
    w.cell? ⟨t, 0, none⟩ = some (.int .i64 s.most) ∧ w.cell? ⟨t, 1, none⟩ = some vP ∧ w.cell? ⟨t, 2, none⟩ = some vF ∧ w.frozen? ⟨t, 0, none⟩ = false ∧ w.frozen? ⟨t, 1, none⟩ = false ∧ w.frozen? ⟨t, 2, none⟩ = false ∧ t < w.heap.size :=
  ⟨by rw [cell_row h.1]; rfl, by rw [cell_row h.1]; rfl, by rw [cell_row h.1]; rfl, frozen_of_row _ _ _ _ _ h.1, frozen_of_row _ _ _ _ _ h.1, frozen_of_row _ _ _ _ _ h.1, lt_of_block h.1⟩
theorem SlA.vals {w : World} {t : Nat} {vP vF : Value} {s : Sl} (h : SlA w t vP vF s) : (∃ A c, vP = .slice A s.pl.length c ∧ s.pl.length ≤ c) ∧ ∃ A c, vF = .slice A s.fr.length c ∧ s.fr.length ≤ c := ⟨own_val h.2.1, own_val h.2.2⟩
theorem SlA.apart {w : World} {t : Nat} {vP vF : Value} {s : Sl} (h : SlA w t vP vF s) : vP.ownBlock ≠ some t ∧ vF.ownBlock ≠ some t ∧ ∀ b, vP.ownBlock = some b → vF.ownBlock ≠ some b := by
  refine ⟨fun e => ?_, fun e => ?_, fun b e1 e2 => ?_⟩
  · obtain ⟨cur, hc⟩ := own_heap h.2.1 e
    rw [h.1] at hc
    simp at hc
  · obtain ⟨cur, hc⟩ := own_heap h.2.2 e
    rw [h.1] at hc
    simp at hc
  · obtain ⟨cur, hc⟩ := own_heap h.2.1 e1
    obtain ⟨cur', hc'⟩ := own_heap h.2.2 e2
    rw [hc] at hc'
    simp at hc'
/-- A place in memory. -/
theorem SlA.place {w : World} {t : Nat} {vP vF : Value} {s : Sl} (h : SlA w t vP vF s) (i : Nat) (hi : i < s.pl.length) :
    ∃ g c, vP = .slice (some ⟨g, 0, none⟩) s.pl.length c ∧ g < w.heap.size ∧ g ≠ t ∧ w.cell? ⟨g, i * 2, none⟩ = some (.int .i64 s.pl[i].x) ∧ w.cell? ⟨g, i * 2 + 1, none⟩ = some (.bool s.pl[i].is) ∧ ∀ o, w.frozen? ⟨g, o, none⟩ = false := by
  obtain ⟨h0, h1, _⟩ := h
  rcases h1.2 with ⟨_, hn⟩ | ⟨g, cap, cur, rfl, _, hg, hnc, hm, hs, ht⟩
  · omega
  · have hc : ∀ j, j < 2 → w.cell? ⟨g, i * 2 + j, none⟩ = (plE s.pl[i])[j]? := fun j hj => by
      rw [h1.cellAt (i * 2 + j) (by omega)]
      exact KPl.row_at _ _ hi _ hj
    refine ⟨g, cap, rfl, lt_of_block hg, ?_, hc 0 (by omega), hc 1 (by omega), fun o => frozen_of_row _ _ _ _ _ hg⟩
    rintro rfl
    rw [hg] at h0
    simp at h0
theorem SlA.free {w : World} {t : Nat} {vP vF : Value} {s : Sl} (h : SlA w t vP vF s) (i : Nat) (hi : i < s.fr.length) :
    ∃ g c, vF = .slice (some ⟨g, 0, none⟩) s.fr.length c ∧ s.fr.length ≤ c ∧ g < w.heap.size ∧ w.cell? ⟨g, i, none⟩ = some (.int .i64 (s.fr[i] : Int)) := by
  obtain ⟨h0, _, h1⟩ := h
  rcases h1.2 with ⟨_, hn⟩ | ⟨g, cap, cur, rfl, _, hg, hnc, hm, hs, ht⟩
  · omega
  · refine ⟨g, cap, rfl, hnc, lt_of_block hg, ?_⟩
    rw [h1.cellAt i (by omega)]
    have := KN.row_at s.fr i hi 0 (by decide)
    rw [show i * KN.k + 0 = i from by simp [KN]] at this
    exact this
theorem Kd.row_set {α : Type} (K : Kd α) (l : List α) (i : Nat) (h : i < l.length) (x : α) (j : Nat) (u : Value) (hx : (K.enc l[i]).set j u = K.enc x) (hj : j < K.k) : (K.row l).set (i * K.k + j) u = K.row (l.set i x) := by
  induction l generalizing i with
  | nil => cases h
  | cons r l ih =>
    rw [K.row_cons]
    cases i with
    | zero =>
      simp only [List.getElem_cons_zero] at hx
      rw [List.set_append_left _ _ (by rw [K.len]; omega), List.set_cons_zero, K.row_cons, ← hx, Nat.zero_mul, Nat.zero_add]
    | succ i =>
      simp only [List.getElem_cons_succ] at hx
      have e : (i + 1) * K.k + j - (K.enc r).length = i * K.k + j := by rw [K.len, Nat.add_mul]; omega
      rw [List.set_append_right _ _ (by rw [K.len, Nat.add_mul]; omega), e, ih i (by simpa using h) hx, List.set_cons_succ, K.row_cons]
/-- A cell of a place is stored. -/
theorem SlA.stored {w : World} {t g n c : Nat} {vF : Value} {s : Sl} (h : SlA w t (.slice (some ⟨g, 0, none⟩) n c) vF s) (hn : n = s.pl.length) (i j : Nat) (hi : i < s.pl.length) (hj : j < 2) (x : Plc) (u : Value) (hx : (plE s.pl[i]).set j u = plE x) :
    SlA (w.setCell ⟨g, i * 2 + j, none⟩ u) t (.slice (some ⟨g, 0, none⟩) n c) vF { s with pl := s.pl.set i x } := by
  subst hn
  obtain ⟨a1, a2, a3⟩ := h.apart
  have ha : g ≠ t := fun e => a1 (by simp [Value.ownBlock, e])
  refine ⟨(Below.heap_setCell _ _ _ _ (fun e => ha e.symm)).trans h.1, ?_, ?_⟩
  · have := (h.2.1.stored (i * 2 + j) u).1
    have e := KPl.row_set s.pl i hi x j u hx hj
    rw [show i * KPl.k + j = i * 2 + j from rfl] at e
    rw [e] at this
    simpa using this
  · exact ownsRow_setCell_other h.2.2 (fun e => a3 g rfl e) _
theorem SlA.put2 {w : World} {t g n c : Nat} {vF : Value} {s : Sl} (h : SlA w t (.slice (some ⟨g, 0, none⟩) n c) vF s) (hn : n = s.pl.length) (i : Nat) (hi : i < s.pl.length) (p : Plc) :
    SlA ((w.setCell ⟨g, i * 2, none⟩ (.int .i64 p.x)).setCell ⟨g, i * 2 + 1, none⟩ (.bool p.is)) t (.slice (some ⟨g, 0, none⟩) n c) vF { s with pl := s.pl.set i p } ∧ Frm (foot t (.slice (some ⟨g, 0, none⟩) n c) vF) w ((w.setCell ⟨g, i * 2, none⟩ (.int .i64 p.x)).setCell ⟨g, i * 2 + 1, none⟩ (.bool p.is)) := by
  have h1 := h.stored hn i 0 hi (by omega) ⟨p.x, s.pl[i].is⟩ (.int .i64 p.x) (by simp [plE])
  have h2 := h1.stored (by simpa using hn) i 1 (by simpa using hi) (by omega) p (.bool p.is) (by simp [plE])
  simp only [List.set_set] at h2
  exact ⟨h2, ((Frm.refl _ _).setCell (p := ⟨g, i * 2, none⟩) (.inl (.inr (.inl rfl))) _).setCell (p := ⟨g, i * 2 + 1, none⟩) (.inl (.inr (.inl rfl))) _⟩
/-- Its places are more. -/
theorem SlA.newP {w w3 : World} {t : Nat} {vP vF v' : Value} {s : Sl} {n : Nat} {pl' : List Plc} {base : Nat} (h : SlA w t vP vF s) (hG : KPl.Grew 55 base vP n pl' w v' w3) (hb : base = 0) (hn : n = pl'.length) :
    SlA (w3.setCell ⟨t, 1, none⟩ v') t v' vF { s with pl := pl' } ∧ Frm (foot t vP vF) w (w3.setCell ⟨t, 1, none⟩ v') ∧ Sub (foot t vP vF) (foot t v' vF) w.heap.size := by
  subst hn hb
  obtain ⟨ho, hg, hat, -⟩ := hG
  obtain ⟨a1, a2, a3⟩ := h.apart
  have hz := lt_of_block h.1
  have hgt : v'.ownBlock ≠ some t := by
    rcases hat with e | e
    · rw [e]; exact a1
    · rw [e]; intro e'; simp only [Option.some.injEq] at e'; omega
  refine ⟨⟨(row3 ((hg.block t hz (fun e => a1 e.symm)).trans h.1)).2.1, ?_, ?_⟩, ?_, ?_⟩
  · exact ownsRow_setCell_other ho (by simpa using hgt) _
  · exact ownsRow_setCell_other (own_other h.2.2 hg (fun b hb e => a3 b e hb)) (by simpa using a2) _
  · exact ((Frm.refl _ w).grown hg (fun k hk => .inl (.inr (.inl hk)))).setCell (.inl (.inl rfl)) _
  · rintro b (rfl | hb | hb)
    · exact .inl (.inl rfl)
    · rcases hat with e | e
      · exact .inl (.inr (.inl (by rw [← e]; exact hb)))
      · rw [e] at hb; simp only [Option.some.injEq] at hb; exact .inr (by omega)
    · exact .inl (.inr (.inr hb))
/-- Its free ones are other ones. -/
theorem SlA.newF {w w3 : World} {t : Nat} {vP vF v' : Value} {s : Sl} {n : Nat} {fr' : List Nat} (h : SlA w t vP vF s) (ho : w3.ownsRow 0 3 1 v' n (KN.row fr')) (hg : w.grownBy w3 vF.ownBlock) (hat : v'.ownBlock = vF.ownBlock ∨ v'.ownBlock = some w.heap.size) (hn : n = fr'.length) :
    SlA (w3.setCell ⟨t, 2, none⟩ v') t vP v' { s with fr := fr' } ∧ Frm (foot t vP vF) w (w3.setCell ⟨t, 2, none⟩ v') ∧ Sub (foot t vP vF) (foot t vP v') w.heap.size := by
  subst hn
  obtain ⟨a1, a2, a3⟩ := h.apart
  have hz := lt_of_block h.1
  have hgt : v'.ownBlock ≠ some t := by
    rcases hat with e | e
    · rw [e]; exact a2
    · rw [e]; intro e'; simp only [Option.some.injEq] at e'; omega
  refine ⟨⟨(row3 ((hg.block t hz (fun e => a2 e.symm)).trans h.1)).2.2, ?_, ?_⟩, ?_, ?_⟩
  · exact ownsRow_setCell_other (own_other h.2.1 hg (fun b hb e => a3 b hb e)) (by simpa using a1) _
  · exact ownsRow_setCell_other ho (by simpa using hgt) _
  · exact ((Frm.refl _ w).grown hg (fun k hk => .inl (.inr (.inr hk)))).setCell (.inl (.inl rfl)) _
  · rintro b (rfl | hb | hb)
    · exact .inl (.inl rfl)
    · exact .inl (.inr (.inl hb))
    · rcases hat with e | e
      · exact .inl (.inr (.inr (by rw [← e]; exact hb)))
      · rw [e] at hb; simp only [Option.some.injEq] at hb; exact .inr (by omega)

/-- Has a place a thing? -/
def Sl.atN (s : Sl) (i : Nat) : Plc := s.pl.getD i plz
def Sl.has (s : Sl) (i : Int) : Bool := decide (0 ≤ i) && decide (i < s.pl.length) && (s.atN i.toNat).is
def Sl.at (s : Sl) (i : Int) : Int := if s.has i = true then (s.atN i.toNat).x else 0
def Sl.nxt (s : Sl) : Option Nat := if s.fr = [] then (if s.pl.length = s.most then none else some s.pl.length) else some (s.fr.getLastD 0)
/-- The next place is no longer among those that are free. -/
def Sl.out (s : Sl) : Sl := if s.fr = [] then (if s.pl.length = s.most then s else { s with pl := s.pl ++ [plz] }) else { s with fr := s.fr.dropLast }
def Sl.set (s : Sl) (i : Nat) (p : Plc) : Sl := { s with pl := s.pl.set i p }
def Sl.take (s : Sl) (x : Int) : Sl := match s.nxt with | none => s | some i => s.out.set i ⟨x, true⟩
def Sl.tookI (s : Sl) : Int := ((s.nxt.getD 0 : Nat) : Int)
def Sl.took (s : Sl) : Bool := s.nxt.isSome
def Sl.give (s : Sl) (i : Int) : Sl := if s.has i = true then { s.set i.toNat plz with fr := s.fr ++ [i.toNat] } else s
def Sl.swap (s : Sl) (i x : Int) : Sl := if s.has i = true then s.set i.toNat ⟨x, true⟩ else s
def Sl.usedK (s : Sl) (k : Nat) : List Nat := (List.range k).filter fun i => (s.atN i).is
def Sl.used (s : Sl) : List Nat := s.usedK s.pl.length
def Sl.len (s : Sl) : Int := (s.pl.length : Int) - s.fr.length
def Sl.new (most : Int) : Sl := ⟨(min (max most 0) 1024).toNat, [], []⟩
/-- What always holds. -/
structure Sl.Ok (s : Sl) : Prop where
  most : s.most ≤ 1024
  pl : s.pl.length ≤ s.most
  fr : ∀ i, i ∈ s.fr ↔ i < s.pl.length ∧ (s.atN i).is = false
  once : s.fr.Nodup
  zero : ∀ i, (s.atN i).is = false → (s.atN i).x = 0
  cnt : s.fr.length + s.used.length = s.pl.length

theorem usedK_succ (s : Sl) (k : Nat) : s.usedK (k + 1) = if (s.atN k).is = true then s.usedK k ++ [k] else s.usedK k := by
  unfold Sl.usedK
  rw [List.range_succ, List.filter_append]
  split <;> simp_all
theorem usedK_le (s : Sl) (k : Nat) : (s.usedK k).length ≤ k := by
  unfold Sl.usedK
  exact Nat.le_trans (List.length_filter_le _ _) (by simp)
theorem mem_used (s : Sl) (i : Nat) : i ∈ s.used ↔ s.has i = true := by
  unfold Sl.used Sl.usedK Sl.has
  simp [Int.toNat_natCast]
theorem atN_out (s : Sl) (i : Nat) (h : s.pl.length ≤ i) : s.atN i = plz := by
  unfold Sl.atN
  rw [List.getD_eq_getElem?_getD, List.getElem?_eq_none h]
  rfl
theorem atN_in (s : Sl) (i : Nat) (h : i < s.pl.length) : s.atN i = s.pl[i] := by
  unfold Sl.atN
  rw [List.getD_eq_getElem?_getD, List.getElem?_eq_getElem h]
  rfl
theorem has_nat (s : Sl) (i : Nat) : s.has i = (s.atN i).is := by
  unfold Sl.has
  by_cases h : i < s.pl.length
  · simp [h]
  · rw [Int.toNat_natCast, atN_out s i (by omega)]
    simp [plz]
theorem has_bd {s : Sl} {i : Int} (h : s.has i = true) : 0 ≤ i ∧ i.toNat < s.pl.length ∧ (s.atN i.toNat).is = true := by
  unfold Sl.has at h
  simp only [Bool.and_eq_true, decide_eq_true_eq] at h
  exact ⟨h.1.1, by omega, h.2⟩
theorem Sl.new_ok (m : Int) : (Sl.new m).Ok where
  most := by simp only [Sl.new]; omega
  pl := by simp [Sl.new]
  fr := by simp [Sl.new]
  once := by simp [Sl.new]
  zero := fun i h => by rw [atN_out _ _ (by simp [Sl.new])]; rfl
  cnt := by simp [Sl.new, Sl.used, Sl.usedK]
theorem Sl.Ok.frLe {s : Sl} (h : s.Ok) : s.fr.length ≤ s.pl.length := by have := h.cnt; omega
theorem Sl.Ok.lenIs {s : Sl} (h : s.Ok) : s.len = s.used.length := by have := h.cnt; unfold Sl.len; omega
theorem last_mem {l : List Nat} (h : l ≠ []) : l.getLastD 0 ∈ l := by
  have e : l.getLastD 0 = l.getLast h := by
    rw [List.getLastD_eq_getLast?, List.getLast?_eq_some_getLast h]
    rfl
  rw [e]
  exact List.getLast_mem h
theorem nxt_lt {s : Sl} (h : s.Ok) {i : Nat} (hi : s.nxt = some i) : i < s.out.pl.length := by
  unfold Sl.nxt at hi
  unfold Sl.out
  split at hi
  · rename_i h1
    rw [if_pos h1]
    split at hi
    · cases hi
    · rename_i h2
      rw [if_neg h2]
      simp only [Option.some.injEq] at hi
      subst hi
      simp
  · rename_i h1
    rw [if_neg h1]
    simp only [Option.some.injEq] at hi
    subst hi
    exact ((h.fr _).1 (last_mem h1)).1

end Go.Proofs.Ytebgkoimphjagaa
