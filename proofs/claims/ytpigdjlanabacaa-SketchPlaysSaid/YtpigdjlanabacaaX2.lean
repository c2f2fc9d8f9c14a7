/-
  Lists of prefixes, and of things done to a sketch, that lie in memory. No condition.
-/
import Derived.Test.YtpigdjlanabacaaNm
import Derived.Test.YtpigdjlanabacaaRn
import Derived.Test.YtpigdjlanabacaaVf
import Derived.Deep.RegionHeld3
import Derived.ChangeKeysEq
import Derived.Test.YtpigdjlanabacaaX1
import Derived.RegionTactic
import Derived.ChangeAlike
import Derived.BigRegion
namespace Go.Proofs.Ytpigdjlanabacaa
open Go.RowKit
set_option maxRecDepth 100000

/-- A step of the hash, and the hash of bytes. -/
def fnv1 (h x : Int) : Int := IntKind.u64.wrap (bits .xor .u64 h x * 1099511628211)
def fnvL (h : Int) (l : List Int) : Int := l.foldl fnv1 h
theorem fnvL_append (h : Int) (a b : List Int) : fnvL h (a ++ b) = fnvL (fnvL h a) b := by simp [fnvL]
theorem fnvL_one (h x : Int) : fnvL h [x] = fnv1 h x := rfl
theorem fnv1_bd (h x : Int) : 0 ≤ fnv1 h x ∧ fnv1 h x < 18446744073709551616 := by
  unfold fnv1
  rw [IntKind.wrap_u64]
  omega
theorem fnvL_bd (h : Int) (h0 : 0 ≤ h ∧ h < 18446744073709551616) (l : List Int) : 0 ≤ fnvL h l ∧ fnvL h l < 18446744073709551616 := by
  induction l generalizing h with
  | nil => exact h0
  | cons x l ih => exact ih _ (fnv1_bd h x)
def hrow (row : Int) : Int := max row 0 % 256
def hsh (row : Int) (p : Pf) : Int := fnvL 14695981039346656037 (hrow row :: putP p)
theorem hsh_bd (row : Int) (p : Pf) : 0 ≤ hsh row p ∧ hsh row p < 18446744073709551616 := fnvL_bd _ (by omega) _
/-- Where a prefix is counted in a row. -/
def kpl (m : Nat) (i : Nat) (p : Pf) : Nat := (hsh i p % (m : Int)).toNat
theorem kpl_lt (m i : Nat) (p : Pf) (h : 0 < m) : kpl m i p < m := by
  unfold kpl
  have h1 := Int.emod_nonneg (hsh i p) (show (m : Int) ≠ 0 by omega)
  have h2 := Int.emod_lt_of_pos (hsh i p) (show (0 : Int) < m by omega)
  omega
theorem kpl_is (m i : Nat) (p : Pf) (h : 0 < m) : hsh i p % (m : Int) = (kpl m i p : Int) := by
  unfold kpl
  have h1 := Int.emod_nonneg (hsh i p) (show (m : Int) ≠ 0 by omega)
  omega

/-- Rows of bytes, of small numbers, of slices. -/
def b8E (x : Int) : List Value := [.int .u8 x]
def K8 : Kd Int := ⟨b8E, 1, by decide, fun _ => rfl, fun x u h => by simp [b8E] at h; subst h; rfl⟩
theorem K8_ty : K8.Ty 5 55 := Kd.ty_of info_u8 (by omega) rfl Try.underlying55
theorem K8_bv (l : List Int) : K8.row l = bv l := by
  induction l with
  | nil => rfl
  | cons x l ih => rw [K8.row_cons, ih]; rfl
def cntE (x : Nat) : List Value := [.int .u8 (x : Int)]
def KC : Kd Nat := ⟨cntE, 1, by decide, fun _ => rfl, fun x u h => by simp [cntE] at h; subst h; rfl⟩
structure Sl3 where
  A : Option Addr
  n : Nat
  c : Nat
def slE (x : Sl3) : List Value := [.slice x.A x.n x.c]
def KR : Kd Sl3 := ⟨slE, 1, by decide, fun _ => rfl, fun x u h => by simp [slE] at h; subst h; rfl⟩
/-- Rows that lie in memory, each as a slice says. -/
def RR {α : Type} (K : Kd α) (w : World) (A : Option Addr) (L : List (List α)) : Prop :=
  ∃ xs : List Sl3, xs.length = L.length ∧ KR.Rd w A xs ∧ ∀ i (h : i < L.length) (h' : i < xs.length), xs[i].n = L[i].length ∧ K.Rd w xs[i].A L[i]
theorem RR.keep {α : Type} {K : Kd α} {w w' : World} {A : Option Addr} {L : List (List α)} (h : RR K w A L) (hb : Below w.heap.size w w') : RR K w' A L := by
  obtain ⟨xs, h1, h2, h3⟩ := h
  exact ⟨xs, h1, h2.kept hb, fun i a b => ⟨(h3 i a b).1, (h3 i a b).2.kept hb⟩⟩
theorem RR.at {α : Type} {K : Kd α} {w : World} {A : Option Addr} {L : List (List α)} (h : RR K w A L) {k : Nat} (hk : k < L.length) :
    ∃ g off A' c', A = some ⟨g, off, none⟩ ∧ g < w.heap.size ∧ w.cell? ⟨g, off + k, none⟩ = some (.slice A' L[k].length c') ∧ K.Rd w A' L[k] := by
  obtain ⟨xs, h1, h2, h3⟩ := h
  have hk' : k < xs.length := by omega
  obtain ⟨g, off, e, hg, hc⟩ := Kd.rd1 (K := KR) rfl h2 hk'
  obtain ⟨e1, e2⟩ := h3 k hk hk'
  refine ⟨g, off, xs[k].A, xs[k].c, e, hg, ?_, e2⟩
  rw [hc, ← e1]
  rfl

/-- Counts: n rows of m. -/
structure Sk where
  n : Nat
  m : Nat
  C : Nat → Nat → Nat
structure Sk.Ok (s : Sk) : Prop where
  n : s.n ≤ 4
  m0 : 1 ≤ s.m
  m : s.m ≤ 256
  C : ∀ i k, s.C i k ≤ 255
def Sk.up (s : Sk) (i k x : Nat) : Sk := { s with C := fun i' k' => if i' = i ∧ k' = k then x else s.C i' k' }
def Sk.addJ (s : Sk) (p : Pf) (j : Nat) : Sk := { s with C := fun i k => if i < j ∧ k = kpl s.m i p then min (s.C i k) 254 + 1 else s.C i k }
def Sk.add (s : Sk) (p : Pf) : Sk := if psane p = true then s.addJ p s.n else s
def Sk.does (s : Sk) (p : Pf) : Bool := psane p && decide (0 < s.n)
def Sk.decJ (s : Sk) (j k : Nat) : Sk := { s with C := fun i k' => if i < j ∨ i = j ∧ k' < k then s.C i k' / 2 else s.C i k' }
def Sk.dec (s : Sk) : Sk := s.decJ s.n 0
def Sk.row (s : Sk) (i : Nat) : List Nat := (List.range s.m).map (s.C i)
def Sk.rows (s : Sk) : List (List Nat) := (List.range s.n).map s.row
def mnN (f : Nat → Nat) : Nat → Nat
  | 0 => f 0
  | k + 1 => min (mnN f k) (f k)
def Sk.cnt (s : Sk) (p : Pf) : Nat := if s.does p = true then mnN (fun i => s.C i (kpl s.m i p)) s.n else 0
def Sk.new (rows width : Int) : Sk := ⟨(min (max rows 1) 4).toNat, (min (max width 1) 256).toNat, fun _ _ => 0⟩
theorem Sk.new_ok (rows width : Int) : (Sk.new rows width).Ok where
  n := by simp only [Sk.new]; omega
  m0 := by simp only [Sk.new]; omega
  m := by simp only [Sk.new]; omega
  C := fun _ _ => Nat.zero_le _
theorem Sk.row_len (s : Sk) (i : Nat) : (s.row i).length = s.m := by simp [Sk.row]
theorem Sk.row_at (s : Sk) (i k : Nat) (h : k < (s.row i).length) : (s.row i)[k] = s.C i k := by simp [Sk.row]
theorem Sk.rows_len (s : Sk) : s.rows.length = s.n := by simp [Sk.rows]
theorem Sk.rows_at (s : Sk) (i : Nat) (h : i < s.rows.length) : s.rows[i] = s.row i := by simp [Sk.rows]
theorem Sk.up_ok {s : Sk} (h : s.Ok) (i k x : Nat) (hx : x ≤ 255) : (s.up i k x).Ok := ⟨h.n, h.m0, h.m, fun a b => by
  simp only [Sk.up]
  split
  · exact hx
  · exact h.C a b⟩
theorem Sk.addJ_ok {s : Sk} (h : s.Ok) (p : Pf) (j : Nat) : (s.addJ p j).Ok := ⟨h.n, h.m0, h.m, fun a b => by
  have := h.C a b
  simp only [Sk.addJ]
  split <;> omega⟩
theorem Sk.add_ok {s : Sk} (h : s.Ok) (p : Pf) : (s.add p).Ok := by
  unfold Sk.add
  split
  · exact Sk.addJ_ok h p _
  · exact h
theorem Sk.decJ_ok {s : Sk} (h : s.Ok) (j k : Nat) : (s.decJ j k).Ok := ⟨h.n, h.m0, h.m, fun a b => by
  have := h.C a b
  simp only [Sk.decJ]
  split <;> omega⟩
theorem Sk.addJ_zero (s : Sk) (p : Pf) : s.addJ p 0 = s := by
  obtain ⟨n, m, C⟩ := s
  simp [Sk.addJ]
theorem Sk.addJ_succ (s : Sk) (p : Pf) (j : Nat) : (s.addJ p j).up j (kpl s.m j p) (min (s.C j (kpl s.m j p)) 254 + 1) = s.addJ p (j + 1) := by
  unfold Sk.addJ Sk.up
  simp only [Sk.mk.injEq, true_and]
  funext i k
  by_cases hi : i = j
  · subst hi
    by_cases hk : k = kpl s.m i p
    · subst hk; simp
    · simp [hk]
  · have e1 : (i < j + 1) ↔ (i < j) := by omega
    simp [hi, e1]
theorem Sk.addJ_at (s : Sk) (p : Pf) (j k : Nat) : (s.addJ p j).C j k = s.C j k := by simp [Sk.addJ]
theorem Sk.decJ_zero (s : Sk) : s.decJ 0 0 = s := by
  obtain ⟨n, m, C⟩ := s
  simp [Sk.decJ]
theorem Sk.decJ_succ (s : Sk) (j k : Nat) : (s.decJ j k).up j k (s.C j k / 2) = s.decJ j (k + 1) := by
  unfold Sk.decJ Sk.up
  simp only [Sk.mk.injEq, true_and]
  funext i k'
  by_cases hi : i = j
  · subst hi
    by_cases hk : k' = k
    · subst hk; simp
    · have e1 : (k' < k + 1) ↔ (k' < k) := by omega
      simp [hk, e1]
  · simp [hi]
theorem Sk.decJ_at (s : Sk) (j k : Nat) : (s.decJ j k).C j k = s.C j k := by simp [Sk.decJ]
/-- The counts of a row's places: what lies behind the last one is never read. -/
def Sk.eqv (s s' : Sk) : Prop := s.n = s'.n ∧ s.m = s'.m ∧ ∀ i k, i < s.n → k < s.m → s.C i k = s'.C i k
theorem Sk.row_congr {m : Nat} {f f' : Nat → Nat} (h : ∀ k, k < m → f k = f' k) : (List.range m).map f = (List.range m).map f' := by
  apply List.map_congr_left
  intro k hk
  exact h k (List.mem_range.1 hk)
theorem Sk.decJ_next (s : Sk) (j : Nat) : (s.decJ j s.m).eqv (s.decJ (j + 1) 0) := ⟨rfl, rfl, fun i k _ hk => by
  simp only [Sk.decJ] at hk ⊢
  by_cases hi : i < j
  · rw [if_pos (.inl hi), if_pos (.inl (by omega))]
  · by_cases he : i = j
    · rw [if_pos (.inr ⟨he, hk⟩), if_pos (.inl (by omega))]
    · rw [if_neg (by omega), if_neg (by omega)]⟩

/-- A sketch lies at block t. -/
def slg (g : Nat → Nat) (m : Nat) (i : Nat) : Sl3 := ⟨some ⟨g i, 0, none⟩, m, m⟩
structure SkA (w : World) (t : Nat) (v : Value) (g : Nat → Nat) (s : Sk) : Prop where
  hd : w.heap[t]? = some (.cells #[v] 49 (0, 0))
  rs : w.ownsRow 0 55 1 v s.n (KR.row ((List.range s.n).map (slg g s.m)))
  ro : ∀ i, i < s.n → w.ownsRow 0 5 1 (.slice (some ⟨g i, 0, none⟩) s.m s.m) s.m (KC.row (s.row i))
  inj : ∀ i j, i < s.n → j < s.n → g i = g j → i = j
  ap : ∀ i, i < s.n → g i ≠ t ∧ v.ownBlock ≠ some (g i)
def fos (t : Nat) (v : Value) (g : Nat → Nat) (n : Nat) (b : Nat) : Prop := b = t ∨ v.ownBlock = some b ∨ ∃ i, i < n ∧ b = g i
def SkS (w : World) (t : Nat) (S : Nat → Prop) (s : Sk) : Prop := ∃ v g, S = fos t v g s.n ∧ s.Ok ∧ SkA w t v g s
section
variable {w w' : World} {t : Nat} {v : Value} {g : Nat → Nat} {s : Sk} {S S' : Nat → Prop}
theorem SkA.frm (h : SkA w t v g s) (hf : Frm S w w') (hn : ∀ b, fos t v g s.n b → ¬ S b) : SkA w' t v g s :=
  ⟨(hf.block t (lt_of_block h.hd) (hn t (.inl rfl))).trans h.hd, own_block h.rs fun b hb hl => hf.block b hl (hn b (.inr (.inl hb))), fun i hi => own_block (h.ro i hi) fun b hb hl => hf.block b hl (hn b (.inr (.inr ⟨i, hi, by simp only [Value.ownBlock, Option.some.injEq] at hb; exact hb.symm⟩))), h.inj, h.ap⟩
theorem SkA.keep (h : SkA w t v g s) (hb : Below w.heap.size w w') : SkA w' t v g s := h.frm (S := fun _ => False) (frm_of_below hb) (fun _ _ h => h)
theorem SkA.lt (h : SkA w t v g s) : ∀ b, fos t v g s.n b → b < w.heap.size := by
  rintro b (rfl | hb | ⟨i, hi, rfl⟩)
  · exact lt_of_block h.hd
  · exact (h.rs.lt b hb).2
  · exact ((h.ro i hi).lt (g i) rfl).2
theorem SkS.keep (h : SkS w t S s) (hb : Below w.heap.size w w') : SkS w' t S s := by
  obtain ⟨v, g, e, hk, h⟩ := h
  exact ⟨v, g, e, hk, h.keep hb⟩
theorem SkS.lt (h : SkS w t S s) : ∀ b, S b → b < w.heap.size := by
  obtain ⟨v, g, rfl, hk, h⟩ := h
  exact h.lt
theorem SkS.frm (h : SkS w t S s) (hf : Frm S' w w') (hn : ∀ b, S b → ¬ S' b) : SkS w' t S s := by
  obtain ⟨v, g, rfl, hk, h⟩ := h
  exact ⟨v, g, rfl, hk, h.frm hf hn⟩
theorem SkS.ok (h : SkS w t S s) : s.Ok := by
  obtain ⟨v, g, rfl, hk, h⟩ := h
  exact hk
theorem SkA.head (h : SkA w t v g s) : w.cell? ⟨t, 0, none⟩ = some v ∧ w.frozen? ⟨t, 0, none⟩ = false ∧ t < w.heap.size :=
  ⟨by rw [cell_row h.hd]; rfl, frozen_of_row _ _ _ _ _ h.hd, lt_of_block h.hd⟩
theorem SkA.rd (h : SkA w t v g s) : ∃ A c, v = .slice A s.n c ∧ KR.Rd w A ((List.range s.n).map (slg g s.m)) := by
  obtain ⟨A, c, e, _, h1, _⟩ := KR.rd_own h.rs (by simp)
  exact ⟨A, c, e, h1⟩
theorem SkA.rowAt {A : Option Addr} {n c : Nat} (h : SkA w t (.slice A n c) g s) {i : Nat} (hi : i < s.n) : ∃ G off, A = some ⟨G, off, none⟩ ∧ G < w.heap.size ∧ w.cell? ⟨G, off + i, none⟩ = some (.slice (some ⟨g i, 0, none⟩) s.m s.m) := by
  obtain ⟨A', c', e, h1⟩ := h.rd
  simp only [Value.slice.injEq] at e
  obtain ⟨rfl, -, -⟩ := e
  obtain ⟨G, off, e, hG, hc⟩ := Kd.rd1 (K := KR) rfl h1 (k := i) (by simpa using hi)
  refine ⟨G, off, e, hG, ?_⟩
  rw [hc]
  simp [KR, slE, slg]
theorem SkA.at (h : SkA w t v g s) {i k : Nat} (hi : i < s.n) (hk : k < s.m) : w.cell? ⟨g i, k, none⟩ = some (.int .u8 (s.C i k : Int)) ∧ w.frozen? ⟨g i, k, none⟩ = false ∧ g i < w.heap.size := by
  have ho := h.ro i hi
  refine ⟨?_, ho.frozenAt k, (ho.lt (g i) rfl).2⟩
  rw [ho.cellAt k (by omega)]
  have := KC.row_at (s.row i) k (by rw [s.row_len]; exact hk) 0 (by decide)
  rw [show k * KC.k + 0 = k from by simp [KC], Sk.row_at] at this
  exact this
/-- A count is stored. -/
theorem SkA.set (h : SkA w t v g s) {i k : Nat} (hi : i < s.n) (hk : k < s.m) (x : Nat) : SkA (w.setCell ⟨g i, k, none⟩ (.int .u8 (x : Int))) t v g (s.up i k x) where
  hd := (Below.heap_setCell _ _ _ _ (fun e => (h.ap i hi).1 e.symm)).trans h.hd
  rs := ownsRow_setCell_other h.rs (fun e => (h.ap i hi).2 e) _
  ro := fun j hj => by
    by_cases e : j = i
    · subst e
      have h1 := Kd.own_set1 (K := KC) rfl (h.ro j hj) k (by rw [s.row_len]; exact hk) x (.int .u8 (x : Int)) rfl
      have e2 : (s.row j).set k x = (s.up j k x).row j := by
        apply List.ext_getElem
        · simp [Sk.row, Sk.up]
        · intro a h1 h2
          rw [List.getElem_set, Sk.row_at, Sk.row_at]
          simp only [Sk.up, true_and]
          by_cases ha : k = a
          · subst ha; simp
          · rw [if_neg ha, if_neg (fun e => ha e.symm)]
      rw [e2] at h1
      exact h1
    · have h1 : (w.setCell ⟨g i, k, none⟩ (.int .u8 (x : Int))).ownsRow 0 5 1 (.slice (some ⟨g j, 0, none⟩) s.m s.m) s.m (KC.row (s.row j)) := ownsRow_setCell_other (h.ro j hj) (fun e2 => e (h.inj j i hj hi (by simpa [Value.ownBlock] using e2))) (.int .u8 (x : Int))
      have e2 : (s.up i k x).row j = s.row j := by
        unfold Sk.row
        apply Sk.row_congr
        intro a _
        simp [Sk.up, e]
      rw [e2]
      exact h1
  inj := h.inj
  ap := h.ap
theorem SkA.eqv (h : SkA w t v g s) {s' : Sk} (he : s.eqv s') : SkA w t v g s' := by
  obtain ⟨n, m, C⟩ := s
  obtain ⟨n', m', C'⟩ := s'
  obtain ⟨e1, e2, e3⟩ := he
  dsimp only at e1 e2 e3
  subst e1 e2
  refine ⟨h.hd, h.rs, fun i hi => ?_, h.inj, h.ap⟩
  have : (⟨n, m, C'⟩ : Sk).row i = (⟨n, m, C⟩ : Sk).row i := Sk.row_congr fun k hk => (e3 i k hi hk).symm
  rw [this]
  exact h.ro i hi
end

end Go.Proofs.Ytpigdjlanabacaa

namespace Go.Proofs.Ytpigdjlanabacaa
open Go.RowKit
set_option maxRecDepth 100000

theorem fnvL_snoc (h : Int) (l : List Int) (k : Nat) (hk : k < l.length) : fnvL h (l.take (k + 1)) = fnv1 (fnvL h (l.take k)) l[k] := by
  rw [List.take_succ_eq_append_getElem hk, fnvL_append]
  rfl
def fnvLL (h : Int) (L : List (List Int)) : Int := L.foldl fnvL h
theorem fnvLL_snoc (h : Int) (L : List (List Int)) (k : Nat) (hk : k < L.length) : fnvLL h (L.take (k + 1)) = fnvL (fnvLL h (L.take k)) L[k] := by
  unfold fnvLL
  rw [List.take_succ_eq_append_getElem hk, List.foldl_append]
  rfl
set_option maxHeartbeats 2000000 in
theorem hashOf_any (L : List (List Int)) (A : Option Addr) (c : Nat) (w : World) (h : RR K8 w A L) (hl : L.length ≤ 1000) (hl2 : ∀ l ∈ L, l.length ≤ 1000 ∧ ∀ x ∈ l, 0 ≤ x ∧ x < 256) :
    Calls Try.prog 25 #[.slice A L.length c] w fun e w' => e = .returned (.int .u64 (fnvLL 14695981039346656037 L)) ∧ w = w' := by
  have HR := Lib.hid h
  have HL := Lib.hid hl2
  clear h hl2
  go_enter Try.func25, Try.ntmps25
  go_wp2_with fail
  go_loopw [3, 10] (fun x i wr => ∃ k : Nat, k ≤ L.length ∧ i = .int .i64 k ∧ x = .int .u64 (fnvLL 14695981039346656037 (L.take k)) ∧ w = wr) (fun _ i _ => L.length - (RowKit.intOf i).toNat)
  case atStart => exact ⟨0, Nat.zero_le _, rfl, rfl, rfl⟩
  case round =>
    obtain ⟨k, hk, rfl, rfl, rfl⟩ := hrel
    by_cases hlt : k < L.length
    · have t1 : decide ((k : Int) < (L.length : Int)) = true := by simp; omega
      have k1 : (k : Int) < (L.length : Int) := by omega
      obtain ⟨g, off, A', c', rfl, hg, hc, hr⟩ := HR.out.at hlt
      have HS := Lib.hid (fnvLL_snoc 14695981039346656037 L k hlt)
      obtain ⟨hll, hbd⟩ := HL.out _ (List.getElem_mem hlt)
      generalize L[k] = l at hc hr HS hll hbd
      generalize fnvLL 14695981039346656037 (L.take k) = h0 at HS
      have HRD := Lib.hid hr
      have HBD := Lib.hid hbd
      clear hr hbd
      go_wp2_with fail
      go_loopw [3, 16] (fun x i wr => ∃ j : Nat, j ≤ l.length ∧ i = .int .i64 j ∧ x = .int .u64 (fnvL h0 (l.take j)) ∧ w = wr) (fun _ i _ => l.length - (RowKit.intOf i).toNat)
      case atStart => exact ⟨0, Nat.zero_le _, rfl, rfl, rfl⟩
      case round =>
        obtain ⟨j, hj, rfl, rfl, rfl⟩ := hrel
        by_cases hlj : j < l.length
        · have t2 : decide ((j : Int) < (l.length : Int)) = true := by simp; omega
          have k2 : (j : Int) < (l.length : Int) := by omega
          obtain ⟨g2, off2, rfl, hg2, hc2⟩ := Kd.rd1 (K := K8) rfl HRD.out hlj
          have HS2 := Lib.hid (fnvL_snoc h0 l j hlj)
          obtain ⟨x0, x1⟩ := HBD.out _ (List.getElem_mem hlj)
          have hc3 : w.cell? ⟨g2, off2 + j, none⟩ = some (.int .u8 l[j]) := hc2
          generalize l[j] = x at hc3 HS2 x0 x1
          have hw : IntKind.u64.wrap x = x := by rw [IntKind.wrap_u64]; omega
          clear hc2
          go_wp2
          go_roundw
          case rel => exact ⟨j + 1, by omega, by go_num, by rw [HS2.out]; rfl, trivial⟩
          case measure => simp [intOf]; omega
        · have hjl : j = l.length := by omega
          subst hjl
          have t2 : decide ((l.length : Int) < (l.length : Int)) = false := by simp
          rw [List.take_of_length_le (Nat.le_refl _)]
          go_wp2
          go_roundw
          case rel => exact ⟨k + 1, by omega, by go_num, by rw [HS.out], trivial⟩
          case measure => simp [intOf]; omega
    · have hkl : k = L.length := by omega
      subst hkl
      have t1 : decide ((L.length : Int) < (L.length : Int)) = false := by simp
      rw [List.take_of_length_le (Nat.le_refl _)]
      go_wp2
      go_ret
      exact ⟨rfl, rfl⟩

theorem rd_none (w : World) : Rd w none 0 [] := ⟨Nat.le_refl _, Nat.zero_le _, fun _ hx => absurd hx (List.not_mem_nil), fun h => absurd rfl h⟩
theorem hrow_wrap (row : Int) : IntKind.u8.wrap (max row 0) = hrow row := by rw [IntKind.wrap_u8]; rfl
theorem hrow_bd (row : Int) : 0 ≤ hrow row ∧ hrow row < 256 := by unfold hrow; omega
theorem putP_small (p : Pf) : (putP p).length ≤ 1000 := by have := putP_le p; omega
theorem rr_two {w : World} {b g : Nat} {A : Option Addr} {x : Int} {c : Nat} {l : List Int} {E : TypeId} (hb : w.heap[b]? = some (.cells #[.slice (some ⟨g, 0, none⟩) 1 1, .slice A l.length c] E (0, 0))) (hg : w.heap[g]? = some (.cells #[.int .u8 x] 5 (0, 0))) (h : K8.Rd w A l) : RR K8 w (some ⟨b, 0, none⟩) [[x], l] := by
  refine ⟨[⟨some ⟨g, 0, none⟩, 1, 1⟩, ⟨A, l.length, c⟩], rfl, fun _ => ⟨b, 0, rfl, lt_of_block hb, fun i hi j hj => ?_⟩, fun i hi hi' => ?_⟩
  · have hj0 : j = 0 := by simp [KR] at hj; omega
    subst hj0
    simp only [List.length_cons, List.length_nil] at hi
    rw [show 0 + i * KR.k + 0 = i from by simp [KR], cell_row hb]
    obtain rfl | rfl : i = 0 ∨ i = 1 := by omega
    · rfl
    · rfl
  · simp only [List.length_cons, List.length_nil] at hi
    obtain rfl | rfl : i = 0 ∨ i = 1 := by omega
    · exact ⟨rfl, Kd.rd_block (K := K8) (r := x) hg⟩
    · exact ⟨rfl, h⟩
theorem k8_rd {w : World} {A : Option Addr} {c : Nat} {l : List Int} (h : Rd w A c l) : K8.Rd w A l := fun hn => by
  obtain ⟨g, off, e, hg, hc⟩ := h.2.2.2 hn
  refine ⟨g, off, e, hg, fun i hi j hj => ?_⟩
  have hj0 : j = 0 := by simp [K8] at hj; omega
  subst hj0
  rw [show off + i * K8.k + 0 = off + i from by simp [K8], hc i hi]
  simp [K8, b8E, at0, hi]
set_option maxHeartbeats 2000000 in
theorem hash_any (row : Int) (p : Pf) (w : World) : Calls Try.prog 19 #[.int .i64 row, .agg #[.int .u64 (u p.a.hi), .int .u64 (u p.a.lo), .bool p.a.v6, .int .i64 p.n]] w fun e w' => e = .returned (.int .u64 (hsh row p)) ∧ Below w.heap.size w w' := by
  have HW := Lib.hid (hrow_wrap row)
  have HP := Lib.hid (putP_small p)
  rcases Int.lt_or_le row 0 with h | h
  · go_enter Try.func19, Try.ntmps19
    go_wp2_with fail
    rw [show (Value.int IntKind.u8 0) = Value.int IntKind.u8 (hrow row) from by rw [← HW.out, show max row 0 = 0 from by omega]; rfl]
    have hB1 : Below w.heap.size w ((w.alloc (.cells #[.int .u64 (u p.a.hi), .int .u64 (u p.a.lo), .bool p.a.v6, .int .i64 p.n] 27)).alloc (.cells #[.int .u8 (hrow row)] 5)) := by go_grown
    have hg1 : ((w.alloc (.cells #[.int .u64 (u p.a.hi), .int .u64 (u p.a.lo), .bool p.a.v6, .int .i64 p.n] 27)).alloc (.cells #[.int .u8 (hrow row)] 5)).heap[w.heap.size + 1]? = some (.cells #[.int .u8 (hrow row)] 5 (0, 0)) := hp_new (by simp)
    generalize World.alloc (World.alloc _ _) _ = W at hB1 hg1 ⊢
    refine (put_any none 0 [] p _ (rd_none _) (by simp)).mono ?_
    rintro e w2 ⟨v2, rfl, ho2, hb2⟩
    rw [List.nil_append] at ho2
    obtain ⟨-, B2, c2, rfl, hr2⟩ := own_rd ho2 (bd_putP p)
    have hg2 := (hb2.block _ (lt_of_block hg1)).trans hg1
    have hB2 := hB1.trans (hb2.mono hB1.size)
    have z2 := hB2.size
    have HR2 := Lib.hid hr2
    have HG2 := Lib.hid hg2
    have HB2 := Lib.hid hB2
    clear hB1 hg1 ho2 hb2 hr2 hg2 hB2
    go_wp2_with fail
    refine (hashOf_any [[hrow row], putP p] (some ⟨w2.heap.size, 0, none⟩) 2 _ (rr_two (hp_new rfl) (hp_old (lt_of_block HG2.out) HG2.out) ((k8_rd HR2.out).kept (by go_grown))) (by simp) (by
      intro l hl
      simp only [List.mem_cons, List.not_mem_nil, or_false] at hl
      rcases hl with rfl | rfl
      · exact ⟨by simp, fun x hx => by simp only [List.mem_cons, List.not_mem_nil, or_false] at hx; subst hx; exact hrow_bd row⟩
      · exact ⟨HP.out, bd_putP p⟩)).mono ?_
    rintro e w3 ⟨rfl, rfl⟩
    go_wp2
    go_ret
    exact ⟨rfl, HB2.out.alloc z2 _⟩
  · go_enter Try.func19, Try.ntmps19
    go_wp2_with fail
    rw [show row % 256 = hrow row from by unfold hrow; rw [show max row 0 = row from by omega]]
    have hB1 : Below w.heap.size w ((w.alloc (.cells #[.int .u64 (u p.a.hi), .int .u64 (u p.a.lo), .bool p.a.v6, .int .i64 p.n] 27)).alloc (.cells #[.int .u8 (hrow row)] 5)) := by go_grown
    have hg1 : ((w.alloc (.cells #[.int .u64 (u p.a.hi), .int .u64 (u p.a.lo), .bool p.a.v6, .int .i64 p.n] 27)).alloc (.cells #[.int .u8 (hrow row)] 5)).heap[w.heap.size + 1]? = some (.cells #[.int .u8 (hrow row)] 5 (0, 0)) := hp_new (by simp)
    generalize World.alloc (World.alloc _ _) _ = W at hB1 hg1 ⊢
    refine (put_any none 0 [] p _ (rd_none _) (by simp)).mono ?_
    rintro e w2 ⟨v2, rfl, ho2, hb2⟩
    rw [List.nil_append] at ho2
    obtain ⟨-, B2, c2, rfl, hr2⟩ := own_rd ho2 (bd_putP p)
    have hg2 := (hb2.block _ (lt_of_block hg1)).trans hg1
    have hB2 := hB1.trans (hb2.mono hB1.size)
    have z2 := hB2.size
    have HR2 := Lib.hid hr2
    have HG2 := Lib.hid hg2
    have HB2 := Lib.hid hB2
    clear hB1 hg1 ho2 hb2 hr2 hg2 hB2
    go_wp2_with fail
    refine (hashOf_any [[hrow row], putP p] (some ⟨w2.heap.size, 0, none⟩) 2 _ (rr_two (hp_new rfl) (hp_old (lt_of_block HG2.out) HG2.out) ((k8_rd HR2.out).kept (by go_grown))) (by simp) (by
      intro l hl
      simp only [List.mem_cons, List.not_mem_nil, or_false] at hl
      rcases hl with rfl | rfl
      · exact ⟨by simp, fun x hx => by simp only [List.mem_cons, List.not_mem_nil, or_false] at hx; subst hx; exact hrow_bd row⟩
      · exact ⟨HP.out, bd_putP p⟩)).mono ?_
    rintro e w3 ⟨rfl, rfl⟩
    go_wp2
    go_ret
    exact ⟨rfl, HB2.out.alloc z2 _⟩

set_option maxHeartbeats 2000000 in
theorem rhash_any (row : Int) (p : Pf) (w : World) : Calls Try.prog 20 #[.int .i64 row, .agg #[.int .u64 (u p.a.hi), .int .u64 (u p.a.lo), .bool p.a.v6, .int .i64 p.n]] w fun e w' => e = .returned (.int .u64 (hsh row p)) ∧ Below w.heap.size w w' := by
  have HW := Lib.hid (hrow_wrap row)
  have HP := Lib.hid (putP_small p)
  rcases Int.lt_or_le row 0 with h | h
  · go_enter Try.func20, Try.ntmps20
    go_wp2_with fail
    rw [show (Value.int IntKind.u8 0) = Value.int IntKind.u8 (hrow row) from by rw [← HW.out, show max row 0 = 0 from by omega]; rfl]
    have hB1 : Below w.heap.size w ((w.alloc (.cells #[.int .u64 (u p.a.hi), .int .u64 (u p.a.lo), .bool p.a.v6, .int .i64 p.n] 27)).alloc (.cells #[.int .u8 (hrow row)] 5)) := by go_grown
    have hg1 : ((w.alloc (.cells #[.int .u64 (u p.a.hi), .int .u64 (u p.a.lo), .bool p.a.v6, .int .i64 p.n] 27)).alloc (.cells #[.int .u8 (hrow row)] 5)).heap[w.heap.size + 1]? = some (.cells #[.int .u8 (hrow row)] 5 (0, 0)) := hp_new (by simp)
    generalize World.alloc (World.alloc _ _) _ = W at hB1 hg1 ⊢
    refine (rput_any (some ⟨w.heap.size + 1, 0, none⟩) 1 [hrow row] p _ (rd_one hg1 (hrow_bd row)) (by simp)).mono ?_
    rintro e w2 ⟨v2, rfl, ho2, hb2⟩
    obtain ⟨-, B2, c2, rfl, hr2⟩ := own_rd ho2 (by
      intro x hx
      rcases List.mem_append.1 hx with h | h
      · simp only [List.mem_cons, List.not_mem_nil, or_false] at h; subst h; exact hrow_bd row
      · exact bd_putP p x h)
    have hB2 := hB1.trans (hb2.mono hB1.size)
    have HR2 := Lib.hid (k8_rd hr2)
    have HBD := Lib.hid hr2.2.2.1
    have HB2 := Lib.hid hB2
    have hl2 : ([hrow row] ++ putP p).length ≤ 1001 := by have := HP.out; simp; omega
    have HH : Hid (hsh row p = fnvL 14695981039346656037 ([hrow row] ++ putP p)) := Lib.hid rfl
    generalize [hrow row] ++ putP p = l at *
    clear hB1 hg1 ho2 hb2 hr2 hB2 h
    go_wp2_with fail
    go_loopw [6, 7] (fun x i wr => ∃ j : Nat, j ≤ l.length ∧ i = .int .i64 j ∧ x = .int .u64 (fnvL 14695981039346656037 (l.take j)) ∧ w2 = wr) (fun _ i _ => l.length - (RowKit.intOf i).toNat)
    case atStart => exact ⟨0, Nat.zero_le _, rfl, rfl, rfl⟩
    case round =>
      obtain ⟨j, hj, rfl, rfl, rfl⟩ := hrel
      by_cases hlj : j < l.length
      · have t2 : decide ((j : Int) < (l.length : Int)) = true := by simp; omega
        have k2 : (j : Int) < (l.length : Int) := by omega
        obtain ⟨g2, off2, rfl, hg2, hc2⟩ := Kd.rd1 (K := K8) rfl HR2.out hlj
        have HS2 := Lib.hid (fnvL_snoc 14695981039346656037 l j hlj)
        obtain ⟨x0, x1⟩ := HBD.out _ (List.getElem_mem hlj)
        have hc3 : w2.cell? ⟨g2, off2 + j, none⟩ = some (.int .u8 l[j]) := hc2
        generalize l[j] = x at hc3 HS2 x0 x1
        have hw : IntKind.u64.wrap x = x := by rw [IntKind.wrap_u64]; omega
        clear hc2
        go_wp2
        go_roundw
        case rel => exact ⟨j + 1, by omega, by go_num, by rw [HS2.out]; rfl, trivial⟩
        case measure => simp [intOf]; omega
      · have hjl : j = l.length := by omega
        subst hjl
        have t2 : decide ((l.length : Int) < (l.length : Int)) = false := by simp
        rw [List.take_of_length_le (Nat.le_refl _)]
        go_wp2
        go_ret
        exact ⟨by rw [HH.out]; rfl, HB2.out⟩
  · have e0 : (row % 256) % 256 = row % 256 := by omega
    go_enter Try.func20, Try.ntmps20
    go_wp2_with fail
    rw [show row % 256 = hrow row from by unfold hrow; rw [show max row 0 = row from by omega]]
    have hB1 : Below w.heap.size w ((w.alloc (.cells #[.int .u64 (u p.a.hi), .int .u64 (u p.a.lo), .bool p.a.v6, .int .i64 p.n] 27)).alloc (.cells #[.int .u8 (hrow row)] 5)) := by go_grown
    have hg1 : ((w.alloc (.cells #[.int .u64 (u p.a.hi), .int .u64 (u p.a.lo), .bool p.a.v6, .int .i64 p.n] 27)).alloc (.cells #[.int .u8 (hrow row)] 5)).heap[w.heap.size + 1]? = some (.cells #[.int .u8 (hrow row)] 5 (0, 0)) := hp_new (by simp)
    generalize World.alloc (World.alloc _ _) _ = W at hB1 hg1 ⊢
    refine (rput_any (some ⟨w.heap.size + 1, 0, none⟩) 1 [hrow row] p _ (rd_one hg1 (hrow_bd row)) (by simp)).mono ?_
    rintro e w2 ⟨v2, rfl, ho2, hb2⟩
    obtain ⟨-, B2, c2, rfl, hr2⟩ := own_rd ho2 (by
      intro x hx
      rcases List.mem_append.1 hx with h | h
      · simp only [List.mem_cons, List.not_mem_nil, or_false] at h; subst h; exact hrow_bd row
      · exact bd_putP p x h)
    have hB2 := hB1.trans (hb2.mono hB1.size)
    have HR2 := Lib.hid (k8_rd hr2)
    have HBD := Lib.hid hr2.2.2.1
    have HB2 := Lib.hid hB2
    have hl2 : ([hrow row] ++ putP p).length ≤ 1001 := by have := HP.out; simp; omega
    have HH : Hid (hsh row p = fnvL 14695981039346656037 ([hrow row] ++ putP p)) := Lib.hid rfl
    generalize [hrow row] ++ putP p = l at *
    clear hB1 hg1 ho2 hb2 hr2 hB2 h
    go_wp2_with fail
    go_loopw [6, 7] (fun x i wr => ∃ j : Nat, j ≤ l.length ∧ i = .int .i64 j ∧ x = .int .u64 (fnvL 14695981039346656037 (l.take j)) ∧ w2 = wr) (fun _ i _ => l.length - (RowKit.intOf i).toNat)
    case atStart => exact ⟨0, Nat.zero_le _, rfl, rfl, rfl⟩
    case round =>
      obtain ⟨j, hj, rfl, rfl, rfl⟩ := hrel
      by_cases hlj : j < l.length
      · have t2 : decide ((j : Int) < (l.length : Int)) = true := by simp; omega
        have k2 : (j : Int) < (l.length : Int) := by omega
        obtain ⟨g2, off2, rfl, hg2, hc2⟩ := Kd.rd1 (K := K8) rfl HR2.out hlj
        have HS2 := Lib.hid (fnvL_snoc 14695981039346656037 l j hlj)
        obtain ⟨x0, x1⟩ := HBD.out _ (List.getElem_mem hlj)
        have hc3 : w2.cell? ⟨g2, off2 + j, none⟩ = some (.int .u8 l[j]) := hc2
        generalize l[j] = x at hc3 HS2 x0 x1
        have hw : IntKind.u64.wrap x = x := by rw [IntKind.wrap_u64]; omega
        clear hc2
        go_wp2
        go_roundw
        case rel => exact ⟨j + 1, by omega, by go_num, by rw [HS2.out]; rfl, trivial⟩
        case measure => simp [intOf]; omega
      · have hjl : j = l.length := by omega
        subst hjl
        have t2 : decide ((l.length : Int) < (l.length : Int)) = false := by simp
        rw [List.take_of_length_le (Nat.le_refl _)]
        go_wp2
        go_ret
        exact ⟨by rw [HH.out]; rfl, HB2.out⟩

end Go.Proofs.Ytpigdjlanabacaa

namespace Go.Proofs.Ytpigdjlanabacaa
open Go.RowKit
set_option maxRecDepth 100000

theorem info_sl8 : (Try.prog.info? 55).map (fun i => (i.zero, i.size, i.bytes)) = some (some (.slice none 0 0), 1, 24) := by kernel_rfl
def SkNew (rows width : Int) (w : World) (e : Ending) (w' : World) : Prop := ∃ t S, e = .returned (.pointer (some ⟨t, 0, none⟩)) ∧ SkS w' t S (Sk.new rows width) ∧ Below w.heap.size w w' ∧ ∀ b, S b → w.heap.size ≤ b
/-- Rows that are made, k of them already. -/
structure NewR (w : World) (N M k : Nat) (wr : World) : Prop where
  ex : ∃ g : Nat → Nat, wr.heap[w.heap.size + 1]? = some (.cells #[.slice (some ⟨w.heap.size, 0, none⟩) N N] 49 (0, 0)) ∧
    wr.ownsRow 0 55 1 (.slice (some ⟨w.heap.size, 0, none⟩) N N) N (KR.row ((List.range N).map (fun i => if i < k then slg g M i else ⟨none, 0, 0⟩))) ∧
    (∀ i, i < k → wr.ownsRow 0 5 1 (.slice (some ⟨g i, 0, none⟩) M M) M (KC.row (List.replicate M 0)) ∧ w.heap.size + 2 ≤ g i) ∧
    (∀ i j, i < k → j < k → g i = g j → i = j)
  bl : Below w.heap.size w wr
theorem NewR.head {w wr : World} {N M k : Nat} (h : NewR w N M k wr) (hk : k < N) : wr.cell? ⟨w.heap.size + 1, 0, none⟩ = some (.slice (some ⟨w.heap.size, 0, none⟩) N N) ∧ wr.frozen? ⟨w.heap.size + 1, 0, none⟩ = false ∧ w.heap.size + 1 < wr.heap.size ∧ wr.cell? ⟨w.heap.size, k, none⟩ = some (.slice none 0 0) ∧ wr.frozen? ⟨w.heap.size, k, none⟩ = false ∧ w.heap.size < wr.heap.size := by
  obtain ⟨g, h1, h2, h3, h4⟩ := h.ex
  refine ⟨by rw [cell_row h1]; rfl, frozen_of_row _ _ _ _ _ h1, lt_of_block h1, ?_, h2.frozenAt k, (h2.lt _ rfl).2⟩
  rw [h2.cellAt k (by omega)]
  have := KR.row_at ((List.range N).map (fun i => if i < k then slg g M i else ⟨none, 0, 0⟩)) k (by simpa using hk) 0 (by decide)
  rw [show k * KR.k + 0 = k from by simp [KR]] at this
  rw [this]
  simp [KR, slE]
theorem kc_zero (M : Nat) : KC.row (List.replicate M 0) = List.replicate M (.int .u8 0) := by
  induction M with
  | zero => rfl
  | succ M ih => rw [List.replicate_succ, KC.row_cons, ih]; rfl
theorem NewR.step {w wr : World} {N M k : Nat} (h : NewR w N M k wr) (hk : k < N) (hM : M ≤ 1024) : NewR w N M (k + 1) ((wr.alloc (.cells (madeCells #[.int .u8 0] M) 5)).setCell ⟨w.heap.size, k, none⟩ (.slice (some ⟨wr.heap.size, 0, none⟩) M M)) := by
  obtain ⟨g, h1, h2, h3, h4⟩ := h.ex
  have z1 := lt_of_block h1
  have z2 := h.bl.size
  refine ⟨⟨fun i => if i = k then wr.heap.size else g i, ?_, ?_, ?_, ?_⟩, (h.bl.alloc z2 _).setCell (p := ⟨w.heap.size, k, none⟩) (Nat.le_refl _) _⟩
  · exact (Below.heap_setCell _ _ _ _ (by simp)).trans (hp_old z1 h1)
  · have h5 := Kd.own_set1 (K := KR) rfl (h2.alloc (.cells (madeCells #[.int .u8 0] M) 5)) k (by simpa using hk) ⟨some ⟨wr.heap.size, 0, none⟩, M, M⟩ (.slice (some ⟨wr.heap.size, 0, none⟩) M M) rfl
    have e : ((List.range N).map (fun i => if i < k then slg g M i else ⟨none, 0, 0⟩)).set k ⟨some ⟨wr.heap.size, 0, none⟩, M, M⟩ = (List.range N).map (fun i => if i < k + 1 then slg (fun i => if i = k then wr.heap.size else g i) M i else ⟨none, 0, 0⟩) := by
      apply List.ext_getElem
      · simp
      · intro a a1 a2
        rw [List.getElem_set]
        simp only [List.getElem_map, List.getElem_range]
        by_cases ha : k = a
        · subst ha; simp [slg]
        · have ha' : ¬ a = k := fun e => ha e.symm
          have hb : a < k + 1 ↔ a < k := by omega
          simp [ha, ha', hb, slg]
    rw [e] at h5
    exact h5
  · intro i hi
    by_cases hik : i = k
    · subst hik
      simp only [if_true]
      refine ⟨?_, by omega⟩
      have h6 : (wr.alloc (.cells (madeCells #[.int .u8 0] M) 5)).ownsRow 0 5 1 (.slice (some ⟨wr.heap.size, 0, none⟩) M M) M (KC.row (List.replicate M 0)) := by
        rw [kc_zero]
        exact own_made (hp_new rfl) hM (Nat.zero_le _)
      exact ownsRow_setCell_other h6 (fun e => by simp [Value.ownBlock] at e; omega) _
    · obtain ⟨h6, h7⟩ := h3 i (by omega)
      simp only [if_neg hik]
      exact ⟨ownsRow_setCell_other (h6.alloc _) (fun e => by simp [Value.ownBlock] at e; omega) _, h7⟩
  · intro i j hi hj e
    have hlt : ∀ i, i < k → g i < wr.heap.size := fun i hi => ((h3 i hi).1.lt (g i) rfl).2
    by_cases hik : i = k
    · by_cases hjk : j = k
      · omega
      · simp only [if_pos hik, if_neg hjk] at e
        have := hlt j (by omega)
        omega
    · by_cases hjk : j = k
      · simp only [if_neg hik, if_pos hjk] at e
        have := hlt i (by omega)
        omega
      · simp only [if_neg hik, if_neg hjk] at e
        exact h4 i j (by omega) (by omega) e
theorem NewR.step' {w wr : World} {N M k : Nat} (h : NewR w N M k wr) (hk : k < N) (hM : M ≤ 1024) : NewR w N M (k + 1) ((wr.setCell ⟨w.heap.size, k, none⟩ (.slice (some ⟨wr.heap.size, 0, none⟩) M M)).alloc (.cells (madeCells #[.int .u8 0] M) 5)).drew := by
  have hz : w.heap.size < wr.heap.size := (h.head hk).2.2.2.2.2
  rw [← World.setCell_alloc_past _ _ _ _ hz]
  obtain ⟨h1, h2⟩ := h.step hk hM
  exact ⟨h1, h2.drew⟩
theorem NewR.done {w wr : World} {N M : Nat} (h : NewR w N M N wr) (s : Sk) (hn : s.n = N) (hm : s.m = M) (hC : ∀ i k, s.C i k = 0) : ∃ g, SkA wr (w.heap.size + 1) (.slice (some ⟨w.heap.size, 0, none⟩) N N) g s ∧ ∀ b, fos (w.heap.size + 1) (.slice (some ⟨w.heap.size, 0, none⟩) N N) g s.n b → w.heap.size ≤ b := by
  subst hn
  subst hm
  obtain ⟨g, h1, h2, h3, h4⟩ := h.ex
  have e : (List.range s.n).map (fun i => if i < s.n then slg g s.m i else ⟨none, 0, 0⟩) = (List.range s.n).map (slg g s.m) := by
    apply List.map_congr_left
    intro a ha
    rw [if_pos (List.mem_range.1 ha)]
  rw [e] at h2
  refine ⟨g, ⟨h1, h2, fun i hi => ?_, h4, fun i hi => ?_⟩, ?_⟩
  · have e2 : s.row i = List.replicate s.m 0 := by
      unfold Sk.row
      rw [show s.C i = fun _ => 0 from funext (hC i)]
      simp [List.map_const']
    rw [e2]
    exact (h3 i hi).1
  · have := (h3 i hi).2
    simp only [Value.ownBlock, ne_eq, Option.some.injEq]
    omega
  · rintro b (rfl | hb | ⟨i, hi, rfl⟩)
    · omega
    · simp only [Value.ownBlock, Option.some.injEq] at hb
      omega
    · have := (h3 i hi).2
      omega
theorem NewR.start {w : World} {N M : Nat} (hN : N ≤ 1024) : NewR w N M 0 ((w.alloc (.cells (madeCells #[.slice none 0 0] N) 55)).alloc (.cells #[.slice (some ⟨w.heap.size, 0, none⟩) N N] 49)) := by
  refine ⟨⟨fun _ => 0, hp_new (by simp), ?_, fun i hi => by omega, fun i j hi => by omega⟩, by go_grown⟩
  have h6 : (w.alloc (.cells (madeCells #[.slice none 0 0] N) 55)).ownsRow 0 55 1 (.slice (some ⟨w.heap.size, 0, none⟩) N N) N (List.replicate N (.slice none 0 0)) := own_made (hp_new rfl) hN (Nat.zero_le _)
  have e : KR.row ((List.range N).map (fun i => if i < 0 then slg (fun _ => 0) M i else ⟨none, 0, 0⟩)) = List.replicate N (.slice none 0 0) := by
    simp only [Nat.not_lt_zero, if_false, List.map_const', List.length_range]
    induction N with
    | zero => rfl
    | succ N ih => rw [List.replicate_succ, KR.row_cons, ih (by omega) (own_made (hp_new rfl) (by omega) (Nat.zero_le _))]; rfl
  rw [e]
  exact h6.alloc _
set_option maxHeartbeats 2000000 in
theorem sknew_any (rows width : Int) (w : World) : Calls Try.prog 9 #[.int .i64 rows, .int .i64 width] w (SkNew rows width w) := by
  have mk := fun (N : Nat) (h : N ≤ 1024) (W : World) => run_make_row' (P := Try.prog) 47 55 (.slice none 0 0) 24 Try.underlying47 info_sl8 rfl .i64 .i64 N (by omega) (by omega) W
  have mk8 := fun (N : Nat) (h : N ≤ 1024) (W : World) => run_make_row' (P := Try.prog) 55 5 (.int .u8 0) 1 Try.underlying55 info_u8 rfl .i64 .i64 N (by omega) (by omega) W
  rcases Int.lt_or_le width 1 with h2 | h2
  · have m2 : ∀ W : World, (Instr.makeSlice 55 (.int .i64 1) (.int .i64 1)).run Try.prog W = .ok (.slice (some ⟨W.heap.size, 0, none⟩) 1 1) (W.alloc (.cells (madeCells #[.int .u8 0] 1) 5)) := mk8 1 (by omega)
    clear mk8
    rcases Int.lt_or_le rows 1 with h1 | h1
    · have m1 : ∀ W : World, (Instr.makeSlice 47 (.int .i64 1) (.int .i64 1)).run Try.prog W = .ok (.slice (some ⟨W.heap.size, 0, none⟩) 1 1) (W.alloc (.cells (madeCells #[.slice none 0 0] 1) 55)) := mk 1 (by omega)
      clear mk
      go_enter Try.func9, Try.ntmps9
      go_wp2_with fail
      go_loopw [18] (fun n wr => ∃ k : Nat, k ≤ 1 ∧ n = .int .i64 k ∧ NewR w 1 1 k wr) (fun n _ => 1 - (intOf n).toNat)
      case atStart => exact ⟨0, Nat.zero_le _, rfl, NewR.start (by omega)⟩
      case round =>
        obtain ⟨k, hk, rfl, hA⟩ := hrel
        have HA := Lib.hid hA
        by_cases hlt : k < 1
        · have t1 : decide ((k : Int) < 1) = true := by simp; omega
          have k1 : (k : Int) < 1 := by omega
          obtain ⟨c0, f0, z0, c1, f1, z1⟩ := hA.head hlt
          have HS := Lib.hid (hA.step' hlt (by omega))
          clear hA
          go_wp2
          go_region
          go_wp2
          go_roundw
          case rel => exact ⟨k + 1, by omega, by go_num, HS.out⟩
          case measure => simp [intOf]; omega
        · have hkN : 1 = k := by omega
          subst hkN
          have t1 : decide ((1 : Int) < 1) = false := by simp
          obtain ⟨g, e1, e2⟩ := hA.done (Sk.new rows width) (by simp only [Sk.new]; omega) (by simp only [Sk.new]; omega) (fun _ _ => rfl)
          have E1 := Lib.hid e1
          have E2 := Lib.hid e2
          clear hA e1 e2
          go_wp2
          go_ret
          exact ⟨_, _, rfl, ⟨_, g, rfl, Sk.new_ok _ _, E1.out⟩, HA.out.bl, E2.out⟩
    · rcases Int.lt_or_le 4 rows with h3 | h3
      · have m1 : ∀ W : World, (Instr.makeSlice 47 (.int .i64 4) (.int .i64 4)).run Try.prog W = .ok (.slice (some ⟨W.heap.size, 0, none⟩) 4 4) (W.alloc (.cells (madeCells #[.slice none 0 0] 4) 55)) := mk 4 (by omega)
        clear mk
        go_enter Try.func9, Try.ntmps9
        go_wp2_with fail
        go_loopw [18] (fun n wr => ∃ k : Nat, k ≤ 4 ∧ n = .int .i64 k ∧ NewR w 4 1 k wr) (fun n _ => 4 - (intOf n).toNat)
        case atStart => exact ⟨0, Nat.zero_le _, rfl, NewR.start (by omega)⟩
        case round =>
          obtain ⟨k, hk, rfl, hA⟩ := hrel
          have HA := Lib.hid hA
          by_cases hlt : k < 4
          · have t1 : decide ((k : Int) < 4) = true := by simp; omega
            have k1 : (k : Int) < 4 := by omega
            obtain ⟨c0, f0, z0, c1, f1, z1⟩ := hA.head hlt
            have HS := Lib.hid (hA.step' hlt (by omega))
            clear hA
            go_wp2
            go_region
            go_wp2
            go_roundw
            case rel => exact ⟨k + 1, by omega, by go_num, HS.out⟩
            case measure => simp [intOf]; omega
          · have hkN : 4 = k := by omega
            subst hkN
            have t1 : decide ((4 : Int) < 4) = false := by simp
            obtain ⟨g, e1, e2⟩ := hA.done (Sk.new rows width) (by simp only [Sk.new]; omega) (by simp only [Sk.new]; omega) (fun _ _ => rfl)
            have E1 := Lib.hid e1
            have E2 := Lib.hid e2
            clear hA e1 e2
            go_wp2
            go_ret
            exact ⟨_, _, rfl, ⟨_, g, rfl, Sk.new_ok _ _, E1.out⟩, HA.out.bl, E2.out⟩
      · obtain ⟨N, rfl⟩ := Int.eq_ofNat_of_zero_le (show 0 ≤ rows by omega)
        have m1 : ∀ W : World, (Instr.makeSlice 47 (.int .i64 (N : Int)) (.int .i64 (N : Int))).run Try.prog W = .ok (.slice (some ⟨W.heap.size, 0, none⟩) N N) (W.alloc (.cells (madeCells #[.slice none 0 0] N) 55)) := mk N (by omega)
        clear mk
        go_enter Try.func9, Try.ntmps9
        go_wp2_with fail
        go_loopw [18] (fun n wr => ∃ k : Nat, k ≤ N ∧ n = .int .i64 k ∧ NewR w N 1 k wr) (fun n _ => N - (intOf n).toNat)
        case atStart => exact ⟨0, Nat.zero_le _, rfl, NewR.start (by omega)⟩
        case round =>
          obtain ⟨k, hk, rfl, hA⟩ := hrel
          have HA := Lib.hid hA
          by_cases hlt : k < N
          · have t1 : decide ((k : Int) < (N : Int)) = true := by simp; omega
            have k1 : (k : Int) < (N : Int) := by omega
            obtain ⟨c0, f0, z0, c1, f1, z1⟩ := hA.head hlt
            have HS := Lib.hid (hA.step' hlt (by omega))
            clear hA
            go_wp2
            go_region
            go_wp2
            go_roundw
            case rel => exact ⟨k + 1, by omega, by go_num, HS.out⟩
            case measure => simp [intOf]; omega
          · have hkN : N = k := by omega
            subst hkN
            have t1 : decide (((N : Int) : Int) < (N : Int)) = false := by simp
            obtain ⟨g, e1, e2⟩ := hA.done (Sk.new (N : Int) width) (by simp only [Sk.new]; omega) (by simp only [Sk.new]; omega) (fun _ _ => rfl)
            have E1 := Lib.hid e1
            have E2 := Lib.hid e2
            clear hA e1 e2
            go_wp2
            go_ret
            exact ⟨_, _, rfl, ⟨_, g, rfl, Sk.new_ok _ _, E1.out⟩, HA.out.bl, E2.out⟩
  · rcases Int.lt_or_le 256 width with h4 | h4
    · have m2 : ∀ W : World, (Instr.makeSlice 55 (.int .i64 256) (.int .i64 256)).run Try.prog W = .ok (.slice (some ⟨W.heap.size, 0, none⟩) 256 256) (W.alloc (.cells (madeCells #[.int .u8 0] 256) 5)) := mk8 256 (by omega)
      clear mk8
      rcases Int.lt_or_le rows 1 with h1 | h1
      · have m1 : ∀ W : World, (Instr.makeSlice 47 (.int .i64 1) (.int .i64 1)).run Try.prog W = .ok (.slice (some ⟨W.heap.size, 0, none⟩) 1 1) (W.alloc (.cells (madeCells #[.slice none 0 0] 1) 55)) := mk 1 (by omega)
        clear mk
        go_enter Try.func9, Try.ntmps9
        go_wp2_with fail
        go_loopw [18] (fun n wr => ∃ k : Nat, k ≤ 1 ∧ n = .int .i64 k ∧ NewR w 1 256 k wr) (fun n _ => 1 - (intOf n).toNat)
        case atStart => exact ⟨0, Nat.zero_le _, rfl, NewR.start (by omega)⟩
        case round =>
          obtain ⟨k, hk, rfl, hA⟩ := hrel
          have HA := Lib.hid hA
          by_cases hlt : k < 1
          · have t1 : decide ((k : Int) < 1) = true := by simp; omega
            have k1 : (k : Int) < 1 := by omega
            obtain ⟨c0, f0, z0, c1, f1, z1⟩ := hA.head hlt
            have HS := Lib.hid (hA.step' hlt (by omega))
            clear hA
            go_wp2
            go_region
            go_wp2
            go_roundw
            case rel => exact ⟨k + 1, by omega, by go_num, HS.out⟩
            case measure => simp [intOf]; omega
          · have hkN : 1 = k := by omega
            subst hkN
            have t1 : decide ((1 : Int) < 1) = false := by simp
            obtain ⟨g, e1, e2⟩ := hA.done (Sk.new rows width) (by simp only [Sk.new]; omega) (by simp only [Sk.new]; omega) (fun _ _ => rfl)
            have E1 := Lib.hid e1
            have E2 := Lib.hid e2
            clear hA e1 e2
            go_wp2
            go_ret
            exact ⟨_, _, rfl, ⟨_, g, rfl, Sk.new_ok _ _, E1.out⟩, HA.out.bl, E2.out⟩
      · rcases Int.lt_or_le 4 rows with h3 | h3
        · have m1 : ∀ W : World, (Instr.makeSlice 47 (.int .i64 4) (.int .i64 4)).run Try.prog W = .ok (.slice (some ⟨W.heap.size, 0, none⟩) 4 4) (W.alloc (.cells (madeCells #[.slice none 0 0] 4) 55)) := mk 4 (by omega)
          clear mk
          go_enter Try.func9, Try.ntmps9
          go_wp2_with fail
          go_loopw [18] (fun n wr => ∃ k : Nat, k ≤ 4 ∧ n = .int .i64 k ∧ NewR w 4 256 k wr) (fun n _ => 4 - (intOf n).toNat)
          case atStart => exact ⟨0, Nat.zero_le _, rfl, NewR.start (by omega)⟩
          case round =>
            obtain ⟨k, hk, rfl, hA⟩ := hrel
            have HA := Lib.hid hA
            by_cases hlt : k < 4
            · have t1 : decide ((k : Int) < 4) = true := by simp; omega
              have k1 : (k : Int) < 4 := by omega
              obtain ⟨c0, f0, z0, c1, f1, z1⟩ := hA.head hlt
              have HS := Lib.hid (hA.step' hlt (by omega))
              clear hA
              go_wp2
              go_region
              go_wp2
              go_roundw
              case rel => exact ⟨k + 1, by omega, by go_num, HS.out⟩
              case measure => simp [intOf]; omega
            · have hkN : 4 = k := by omega
              subst hkN
              have t1 : decide ((4 : Int) < 4) = false := by simp
              obtain ⟨g, e1, e2⟩ := hA.done (Sk.new rows width) (by simp only [Sk.new]; omega) (by simp only [Sk.new]; omega) (fun _ _ => rfl)
              have E1 := Lib.hid e1
              have E2 := Lib.hid e2
              clear hA e1 e2
              go_wp2
              go_ret
              exact ⟨_, _, rfl, ⟨_, g, rfl, Sk.new_ok _ _, E1.out⟩, HA.out.bl, E2.out⟩
        · obtain ⟨N, rfl⟩ := Int.eq_ofNat_of_zero_le (show 0 ≤ rows by omega)
          have m1 : ∀ W : World, (Instr.makeSlice 47 (.int .i64 (N : Int)) (.int .i64 (N : Int))).run Try.prog W = .ok (.slice (some ⟨W.heap.size, 0, none⟩) N N) (W.alloc (.cells (madeCells #[.slice none 0 0] N) 55)) := mk N (by omega)
          clear mk
          go_enter Try.func9, Try.ntmps9
          go_wp2_with fail
          go_loopw [18] (fun n wr => ∃ k : Nat, k ≤ N ∧ n = .int .i64 k ∧ NewR w N 256 k wr) (fun n _ => N - (intOf n).toNat)
          case atStart => exact ⟨0, Nat.zero_le _, rfl, NewR.start (by omega)⟩
          case round =>
            obtain ⟨k, hk, rfl, hA⟩ := hrel
            have HA := Lib.hid hA
            by_cases hlt : k < N
            · have t1 : decide ((k : Int) < (N : Int)) = true := by simp; omega
              have k1 : (k : Int) < (N : Int) := by omega
              obtain ⟨c0, f0, z0, c1, f1, z1⟩ := hA.head hlt
              have HS := Lib.hid (hA.step' hlt (by omega))
              clear hA
              go_wp2
              go_region
              go_wp2
              go_roundw
              case rel => exact ⟨k + 1, by omega, by go_num, HS.out⟩
              case measure => simp [intOf]; omega
            · have hkN : N = k := by omega
              subst hkN
              have t1 : decide (((N : Int) : Int) < (N : Int)) = false := by simp
              obtain ⟨g, e1, e2⟩ := hA.done (Sk.new (N : Int) width) (by simp only [Sk.new]; omega) (by simp only [Sk.new]; omega) (fun _ _ => rfl)
              have E1 := Lib.hid e1
              have E2 := Lib.hid e2
              clear hA e1 e2
              go_wp2
              go_ret
              exact ⟨_, _, rfl, ⟨_, g, rfl, Sk.new_ok _ _, E1.out⟩, HA.out.bl, E2.out⟩
    · obtain ⟨M, rfl⟩ := Int.eq_ofNat_of_zero_le (show 0 ≤ width by omega)
      have m2 : ∀ W : World, (Instr.makeSlice 55 (.int .i64 (M : Int)) (.int .i64 (M : Int))).run Try.prog W = .ok (.slice (some ⟨W.heap.size, 0, none⟩) M M) (W.alloc (.cells (madeCells #[.int .u8 0] M) 5)) := mk8 M (by omega)
      clear mk8
      rcases Int.lt_or_le rows 1 with h1 | h1
      · have m1 : ∀ W : World, (Instr.makeSlice 47 (.int .i64 1) (.int .i64 1)).run Try.prog W = .ok (.slice (some ⟨W.heap.size, 0, none⟩) 1 1) (W.alloc (.cells (madeCells #[.slice none 0 0] 1) 55)) := mk 1 (by omega)
        clear mk
        go_enter Try.func9, Try.ntmps9
        go_wp2_with fail
        go_loopw [18] (fun n wr => ∃ k : Nat, k ≤ 1 ∧ n = .int .i64 k ∧ NewR w 1 M k wr) (fun n _ => 1 - (intOf n).toNat)
        case atStart => exact ⟨0, Nat.zero_le _, rfl, NewR.start (by omega)⟩
        case round =>
          obtain ⟨k, hk, rfl, hA⟩ := hrel
          have HA := Lib.hid hA
          by_cases hlt : k < 1
          · have t1 : decide ((k : Int) < 1) = true := by simp; omega
            have k1 : (k : Int) < 1 := by omega
            obtain ⟨c0, f0, z0, c1, f1, z1⟩ := hA.head hlt
            have HS := Lib.hid (hA.step' hlt (by omega))
            clear hA
            go_wp2
            go_region
            go_wp2
            go_roundw
            case rel => exact ⟨k + 1, by omega, by go_num, HS.out⟩
            case measure => simp [intOf]; omega
          · have hkN : 1 = k := by omega
            subst hkN
            have t1 : decide ((1 : Int) < 1) = false := by simp
            obtain ⟨g, e1, e2⟩ := hA.done (Sk.new rows (M : Int)) (by simp only [Sk.new]; omega) (by simp only [Sk.new]; omega) (fun _ _ => rfl)
            have E1 := Lib.hid e1
            have E2 := Lib.hid e2
            clear hA e1 e2
            go_wp2
            go_ret
            exact ⟨_, _, rfl, ⟨_, g, rfl, Sk.new_ok _ _, E1.out⟩, HA.out.bl, E2.out⟩
      · rcases Int.lt_or_le 4 rows with h3 | h3
        · have m1 : ∀ W : World, (Instr.makeSlice 47 (.int .i64 4) (.int .i64 4)).run Try.prog W = .ok (.slice (some ⟨W.heap.size, 0, none⟩) 4 4) (W.alloc (.cells (madeCells #[.slice none 0 0] 4) 55)) := mk 4 (by omega)
          clear mk
          go_enter Try.func9, Try.ntmps9
          go_wp2_with fail
          go_loopw [18] (fun n wr => ∃ k : Nat, k ≤ 4 ∧ n = .int .i64 k ∧ NewR w 4 M k wr) (fun n _ => 4 - (intOf n).toNat)
          case atStart => exact ⟨0, Nat.zero_le _, rfl, NewR.start (by omega)⟩
          case round =>
            obtain ⟨k, hk, rfl, hA⟩ := hrel
            have HA := Lib.hid hA
            by_cases hlt : k < 4
            · have t1 : decide ((k : Int) < 4) = true := by simp; omega
              have k1 : (k : Int) < 4 := by omega
              obtain ⟨c0, f0, z0, c1, f1, z1⟩ := hA.head hlt
              have HS := Lib.hid (hA.step' hlt (by omega))
              clear hA
              go_wp2
              go_region
              go_wp2
              go_roundw
              case rel => exact ⟨k + 1, by omega, by go_num, HS.out⟩
              case measure => simp [intOf]; omega
            · have hkN : 4 = k := by omega
              subst hkN
              have t1 : decide ((4 : Int) < 4) = false := by simp
              obtain ⟨g, e1, e2⟩ := hA.done (Sk.new rows (M : Int)) (by simp only [Sk.new]; omega) (by simp only [Sk.new]; omega) (fun _ _ => rfl)
              have E1 := Lib.hid e1
              have E2 := Lib.hid e2
              clear hA e1 e2
              go_wp2
              go_ret
              exact ⟨_, _, rfl, ⟨_, g, rfl, Sk.new_ok _ _, E1.out⟩, HA.out.bl, E2.out⟩
        · obtain ⟨N, rfl⟩ := Int.eq_ofNat_of_zero_le (show 0 ≤ rows by omega)
          have m1 : ∀ W : World, (Instr.makeSlice 47 (.int .i64 (N : Int)) (.int .i64 (N : Int))).run Try.prog W = .ok (.slice (some ⟨W.heap.size, 0, none⟩) N N) (W.alloc (.cells (madeCells #[.slice none 0 0] N) 55)) := mk N (by omega)
          clear mk
          go_enter Try.func9, Try.ntmps9
          go_wp2_with fail
          go_loopw [18] (fun n wr => ∃ k : Nat, k ≤ N ∧ n = .int .i64 k ∧ NewR w N M k wr) (fun n _ => N - (intOf n).toNat)
          case atStart => exact ⟨0, Nat.zero_le _, rfl, NewR.start (by omega)⟩
          case round =>
            obtain ⟨k, hk, rfl, hA⟩ := hrel
            have HA := Lib.hid hA
            by_cases hlt : k < N
            · have t1 : decide ((k : Int) < (N : Int)) = true := by simp; omega
              have k1 : (k : Int) < (N : Int) := by omega
              obtain ⟨c0, f0, z0, c1, f1, z1⟩ := hA.head hlt
              have HS := Lib.hid (hA.step' hlt (by omega))
              clear hA
              go_wp2
              go_region
              go_wp2
              go_roundw
              case rel => exact ⟨k + 1, by omega, by go_num, HS.out⟩
              case measure => simp [intOf]; omega
            · have hkN : N = k := by omega
              subst hkN
              have t1 : decide (((N : Int) : Int) < (N : Int)) = false := by simp
              obtain ⟨g, e1, e2⟩ := hA.done (Sk.new (N : Int) (M : Int)) (by simp only [Sk.new]; omega) (by simp only [Sk.new]; omega) (fun _ _ => rfl)
              have E1 := Lib.hid e1
              have E2 := Lib.hid e2
              clear hA e1 e2
              go_wp2
              go_ret
              exact ⟨_, _, rfl, ⟨_, g, rfl, Sk.new_ok _ _, E1.out⟩, HA.out.bl, E2.out⟩
end Go.Proofs.Ytpigdjlanabacaa

namespace Go.Proofs.Ytpigdjlanabacaa
open Go.RowKit
set_option maxRecDepth 100000

theorem all_any (w : World) (t : Nat) (v : Value) (g : Nat → Nat) (s : Sk) (h : SkA w t v g s) : Calls Try.prog 22 #[.pointer (some ⟨t, 0, none⟩)] w fun e w' => e = .returned v ∧ w = w' := by
  obtain ⟨c0, f0, hz⟩ := h.head
  obtain ⟨A, c, rfl, -⟩ := h.rd
  clear h
  go_enter Try.func22, Try.ntmps22
  go_wp2
  go_ret
  exact ⟨rfl, rfl⟩
theorem nall_any (w : World) : Calls Try.prog 22 #[.pointer none] w fun e w' => e = .returned (.slice none 0 0) ∧ w = w' := by
  go_enter Try.func22, Try.ntmps22
  go_wp2
  go_ret
  exact ⟨rfl, rfl⟩
/-- Places. -/
def plE (a : Addr) : List Value := [.pointer (some a)]
def KP : Kd Addr := ⟨plE, 1, by decide, fun _ => rfl, fun x u h => by simp [plE] at h; subst h; rfl⟩
theorem info_p8 : (Try.prog.info? 60).map (fun i => (i.zero, i.size, i.bytes)) = some (some (.pointer none), 1, 8) := by kernel_rfl
theorem KP_ty : KP.Ty 60 58 := Kd.ty_of info_p8 (by omega) rfl Try.underlying58
def plAt (g : Nat → Nat) (m : Nat) (p : Pf) (i : Nat) : Addr := ⟨g i, kpl m i p, none⟩
def plL (g : Nat → Nat) (m : Nat) (p : Pf) (n : Nat) : List Addr := (List.range n).map (plAt g m p)
theorem plL_len (g : Nat → Nat) (m : Nat) (p : Pf) (n : Nat) : (plL g m p n).length = n := by simp [plL]
theorem plL_succ (g : Nat → Nat) (m : Nat) (p : Pf) (n : Nat) : plL g m p (n + 1) = plL g m p n ++ [plAt g m p n] := by simp [plL, List.range_succ]
def PlPost (w : World) (l : List Addr) (e : Ending) (w' : World) : Prop := ∃ A c, e = .returned (.slice A l.length c) ∧ KP.Rd w' A l ∧ (∀ a, A = some a → w.heap.size ≤ a.block) ∧ Below w.heap.size w w'
theorem rgood_zero (p : Pf) : rgood ⟨p, 0⟩ = psane p := by unfold rgood; simp
theorem four_new {w : World} {x0 x1 x2 x3 : Value} {e : TypeId} {W : World} (hb : Below (w.alloc (.cells #[x0, x1, x2, x3] e (0, 0))).heap.size (w.alloc (.cells #[x0, x1, x2, x3] e (0, 0))) W) :
    W.cell? ⟨w.heap.size, 0, none⟩ = some x0 ∧ W.cell? ⟨w.heap.size, 1, none⟩ = some x1 ∧ W.cell? ⟨w.heap.size, 2, none⟩ = some x2 ∧ W.cell? ⟨w.heap.size, 3, none⟩ = some x3 := by
  have h : W.heap[w.heap.size]? = some (.cells #[x0, x1, x2, x3] e (0, 0)) := (hb.block _ (by simp)).trans (hp_new rfl)
  exact ⟨by rw [cell_row h]; rfl, by rw [cell_row h]; rfl, by rw [cell_row h]; rfl, by rw [cell_row h]; rfl⟩
set_option maxHeartbeats 2000000 in
theorem places_no (w : World) (P : Option Addr) (p : Pf) (hs : psane p = false) : Calls Try.prog 23 #[.pointer P, .agg #[.int .u64 (u p.a.hi), .int .u64 (u p.a.lo), .bool p.a.v6, .int .i64 p.n]] w fun e w' => e = .returned (.slice none 0 0) ∧ Below w.heap.size w w' := by
  have hg := fun W => good_any ⟨p, 0⟩ W
  simp only [rgood_zero, hs] at hg
  have HG := Lib.hid hg
  clear hg hs
  go_enter Try.func23, Try.ntmps23
  go_wp2_with fail
  refine (HG.out _).mono ?_
  rintro e w1 ⟨rfl, b1⟩
  have b2 := below_of (w := w) (by go_grown) b1
  clear b1
  go_wp2
  go_ret
  exact ⟨rfl, b2⟩
set_option maxHeartbeats 2000000 in
theorem places_nil (w : World) (p : Pf) : Calls Try.prog 23 #[.pointer none, .agg #[.int .u64 (u p.a.hi), .int .u64 (u p.a.lo), .bool p.a.v6, .int .i64 p.n]] w fun e w' => e = .returned (.slice none 0 0) ∧ Below w.heap.size w w' := by
  cases hs : psane p
  · exact places_no w none p hs
  · have hg := fun W => good_any ⟨p, 0⟩ W
    simp only [rgood_zero, hs] at hg
    have HG := Lib.hid hg
    clear hg hs
    go_enter Try.func23, Try.ntmps23
    go_wp2_with fail
    refine (HG.out _).mono ?_
    rintro e w1 ⟨rfl, b1⟩
    have b2 := below_of (w := w) (by go_grown) b1
    clear b1
    go_wp2_with fail
    refine (nall_any _).mono ?_
    rintro e w3 ⟨rfl, rfl⟩
    go_wp2_with fail
    go_loopw [5, 15] (fun x i wr => x = .slice none 0 0 ∧ i = .int .i64 0 ∧ w1 = wr) (fun _ i _ => 0)
    case atStart => exact ⟨rfl, rfl, rfl⟩
    case round =>
      obtain ⟨rfl, rfl, rfl⟩ := hrel
      go_wp2
      go_ret
      exact ⟨rfl, b2⟩
set_option maxHeartbeats 2000000 in
theorem places_yes (w : World) (t : Nat) (v : Value) (g : Nat → Nat) (s : Sk) (h : SkA w t v g s) (hk : s.Ok) (p : Pf) (hs : psane p = true) : Calls Try.prog 23 #[.pointer (some ⟨t, 0, none⟩), .agg #[.int .u64 (u p.a.hi), .int .u64 (u p.a.lo), .bool p.a.v6, .int .i64 p.n]] w (PlPost w (plL g s.m p s.n)) := by
  have hg := fun W => good_any ⟨p, 0⟩ W
  simp only [rgood_zero, hs] at hg
  have HG := Lib.hid hg
  have HA := Lib.hid h
  have n4 := hk.n
  have m0 := hk.m0
  have m1 := hk.m
  obtain ⟨Av, cv, rfl, -⟩ := h.rd
  clear hg hs h hk
  go_enter Try.func23, Try.ntmps23
  go_wp2_with fail
  refine (HG.out _).mono ?_
  rintro e w1 ⟨rfl, b1⟩
  have b2 := below_of (w := w) (by go_grown) b1
  have hP := fun W (hB : Below w1.heap.size w1 W) => four_new (b1.trans (hB.mono b1.size))
  have z1 : w.heap.size < w1.heap.size := Nat.lt_of_lt_of_le (by simp) b1.size
  have HP := Lib.hid hP
  have HA1 := Lib.hid (HA.out.keep b2)
  have HB2 := Lib.hid b2
  clear b1 hP b2
  go_wp2_with fail
  refine (all_any _ _ _ _ _ HA1.out).mono ?_
  rintro e w3 ⟨rfl, rfl⟩
  go_wp2_with fail
  go_loopw [5, 15] (fun x i wr => ∃ (k : Nat) (A : Option Addr) (c : Nat), k ≤ s.n ∧ i = .int .i64 k ∧ x = .slice A k c ∧ wr.ownsRow w1.heap.size 60 1 (.slice A k c) k (KP.row (plL g s.m p k)) ∧ Below w1.heap.size w1 wr) (fun _ i _ => s.n - (intOf i).toNat)
  case atStart => exact ⟨0, none, 0, Nat.zero_le _, rfl, rfl, World.ownsRow_nil _ _ _ _, Below.refl _ _⟩
  case round =>
    obtain ⟨k, A, c, hkn, rfl, rfl, ho, hb⟩ := hrel
    have HO := Lib.hid ho
    have HB := Lib.hid hb
    clear ho
    by_cases hlt : k < s.n
    · have t1 : decide ((k : Int) < (s.n : Int)) = true := by simp; omega
      have k1 : (k : Int) < (s.n : Int) := by omega
      obtain ⟨G, off, rfl, hG, r0⟩ := (HA1.out.keep hb).rowAt hlt
      obtain ⟨p0, p1, p2, p3⟩ := HP.out wr hb
      have hb0 := hb.size
      clear hb
      go_wp2_with fail
      refine (hash_any k p _).mono ?_
      rintro e w4 ⟨rfl, b4⟩
      obtain ⟨h0, h1⟩ := hsh_bd k p
      have hm : IntKind.u64.wrap (s.m : Int) = (s.m : Int) := by rw [IntKind.wrap_u64]; omega
      have hr := kpl_is s.m k p (by omega)
      have hq := kpl_lt s.m k p (by omega)
      have HB4 := Lib.hid (HB.out.trans (b4.mono hb0))
      have HO4 := Lib.hid (own_block HO.out (fun b _ hl => b4.block b hl))
      have z4 := HB4.out.size
      go_wp2_with (
        at_builtin
        refine Kd.wpList_one KP_ty rfl (.tmp 20) (.tmp 30) rfl w1.heap.size _ k _ (plL_len g s.m p k).symm (by rfl) (HO4.out.alloc _) w4.heap.size (plAt g s.m p k) (by rfl) (hp_new rfl) (by omega) (by simp; omega) ?_
        intro A' c' w7 hG
        have HG7 := Lib.hid hG
        clear hG
        )
      go_roundw
      case rel => exact ⟨k + 1, A', c', by omega, by go_num, rfl, by rw [plL_succ]; exact HG7.out.1, (HB4.out.alloc z4 _).trans HG7.out.2.2.2⟩
      case measure => simp [intOf]; omega
    · obtain rfl : s.n = k := by omega
      have t1 : decide ((s.n : Int) < (s.n : Int)) = false := by simp
      clear hb
      go_wp2
      go_ret
      obtain ⟨A2, c2, e2, -, r2, l2⟩ := KP.rd_own HO.out (plL_len g s.m p s.n).symm
      simp only [Value.slice.injEq, true_and] at e2
      obtain ⟨rfl, rfl⟩ := e2
      exact ⟨A, c, by rw [plL_len]; rfl, r2, fun a ha => by have := (l2 a ha).1; omega, HB2.out.trans (HB.out.mono HB2.out.size)⟩
end Go.Proofs.Ytpigdjlanabacaa

namespace Go.Proofs.Ytpigdjlanabacaa
open Go.RowKit
set_option maxRecDepth 100000

def SkPost (S : Nat → Prop) (w : World) (t : Nat) (s' : Sk) (w' : World) : Prop := ∃ S', SkS w' t S' s' ∧ Frm S w w' ∧ Sub S S' w.heap.size
theorem add_no11 (w : World) (P : Option Addr) (p : Pf) (hc : ∀ W, Below w.heap.size w W → Calls Try.prog 23 #[.pointer P, .agg #[.int .u64 (u p.a.hi), .int .u64 (u p.a.lo), .bool p.a.v6, .int .i64 p.n]] W fun e w' => e = .returned (.slice none 0 0) ∧ Below W.heap.size W w') : Calls Try.prog 13 #[.pointer P, .agg #[.int .u64 (u p.a.hi), .int .u64 (u p.a.lo), .bool p.a.v6, .int .i64 p.n]] w fun e w' => e = .returned (.bool false) ∧ Below w.heap.size w w' := by
  have HC := Lib.hid hc
  clear hc
  go_enter Try.func13, Try.ntmps13
  go_wp2_with fail
  refine (HC.out _ (by go_grown)).mono ?_
  rintro e w1 ⟨rfl, b1⟩
  have b2 := below_of (w := w) (by go_grown) b1
  clear b1
  go_wp2_with fail
  go_loopw [13] (fun i wr => i = .int .i64 0 ∧ w1 = wr) (fun i _ => 0)
  case atStart => exact ⟨rfl, rfl⟩
  case round =>
    obtain ⟨rfl, rfl⟩ := hrel
    go_wp2
    go_ret
    exact ⟨rfl, b2⟩
set_option maxHeartbeats 2000000 in
theorem add_yes11 (w : World) (t : Nat) (v : Value) (g : Nat → Nat) (s : Sk) (h : SkA w t v g s) (hk : s.Ok) (p : Pf) (hs : psane p = true) : Calls Try.prog 13 #[.pointer (some ⟨t, 0, none⟩), .agg #[.int .u64 (u p.a.hi), .int .u64 (u p.a.lo), .bool p.a.v6, .int .i64 p.n]] w fun e w' => e = .returned (.bool (decide (0 < s.n))) ∧ SkA w' t v g (s.addJ p s.n) ∧ Frm (fos t v g s.n) w w' := by
  have HC := Lib.hid (places_yes (w.alloc (.cells #[.int .u64 (u p.a.hi), .int .u64 (u p.a.lo), .bool p.a.v6, .int .i64 p.n] 27)) t v g s (h.keep (by go_grown)) hk p hs)
  have HA := Lib.hid h
  have HK := Lib.hid hk
  have n4 := hk.n
  have m0 := hk.m0
  clear h hs hk
  go_enter Try.func13, Try.ntmps13
  go_wp2_with fail
  refine HC.out.mono ?_
  rintro e w1 ⟨A, c, rfl, r1, l1, b1⟩
  rw [plL_len]
  have b2 := below_of (w := w) (by go_grown) b1
  have HR := Lib.hid r1
  have HL : Hid (∀ a, A = some a → ¬ fos t v g s.n a.block) := Lib.hid (fun a ha hf => by
    have h1 := l1 a ha
    have h2 := HA.out.lt _ hf
    simp at h1
    omega)
  have HA1 := Lib.hid (HA.out.keep b2)
  have HB2 := Lib.hid b2
  clear r1 l1 b1 b2 HC
  go_wp2_with fail
  go_loopw [13] (fun i wr => ∃ k : Nat, k ≤ s.n ∧ i = .int .i64 k ∧ SkA wr t v g (s.addJ p k) ∧ Frm (fos t v g s.n) w1 wr) (fun i _ => s.n - (intOf i).toNat)
  case atStart => exact ⟨0, Nat.zero_le _, rfl, by rw [Sk.addJ_zero]; exact HA1.out, Frm.refl _ _⟩
  case round =>
    obtain ⟨k, hkn, rfl, ha, hf⟩ := hrel
    have HAk := Lib.hid ha
    have HF := Lib.hid hf
    clear ha
    by_cases hlt : k < s.n
    · have t1 : decide ((k : Int) < (s.n : Int)) = true := by simp; omega
      have k1 : (k : Int) < (s.n : Int) := by omega
      obtain ⟨G, off, rfl, hG, r0⟩ := Kd.rd1 (K := KP) rfl (HR.out.frm hf HL.out) (k := k) (by rw [plL_len]; exact hlt)
      have r1 : wr.cell? ⟨G, off + k, none⟩ = some (.pointer (some ⟨g k, kpl s.m k p, none⟩)) := by rw [r0]; simp [KP, plE, plL, plAt]
      have hq := kpl_lt s.m k p (by omega)
      obtain ⟨c0, f0, z0⟩ := HAk.out.at (i := k) (k := kpl s.m k p) hlt hq
      rw [Sk.addJ_at] at c0
      have hx := HK.out.C k (kpl s.m k p)
      have HS := Lib.hid (HAk.out.set (i := k) (k := kpl s.m k p) hlt hq (min (s.C k (kpl s.m k p)) 254 + 1))
      rw [Sk.addJ_succ] at HS
      generalize s.C k (kpl s.m k p) = x at c0 hx HS
      have HF2 : Hid (∀ y, Frm (fos t v g s.n) w1 (wr.setCell ⟨g k, kpl s.m k p, none⟩ y)) := Lib.hid (fun y => HF.out.setCell (p := ⟨g k, kpl s.m k p, none⟩) (.inl (.inr (.inr ⟨k, hlt, rfl⟩))) y)
      clear hf r0 hq
      generalize kpl s.m k p = q at r1 c0 f0 HS HF2
      by_cases h2 : x ≤ 254
      · have h3 : (x : Int) ≤ 254 := by omega
        rw [show min x 254 = x from by omega] at HS
        clear hx
        go_wp2
        go_roundw
        case rel => exact ⟨k + 1, by omega, by go_num, HS.out, HF2.out _⟩
        case measure => simp [intOf]; omega
      · obtain rfl : x = 255 := by omega
        rw [show min 255 254 + 1 = 255 from rfl] at HS
        go_wp2
        go_roundw
        case rel => exact ⟨k + 1, by omega, by go_num, HS.out, HF2.out _⟩
        case measure => simp [intOf]; omega
    · obtain rfl : s.n = k := by omega
      have t1 : decide ((s.n : Int) < (s.n : Int)) = false := by simp
      have t2 : decide (0 < (s.n : Int)) = decide (0 < s.n) := by simp
      clear hf
      go_wp2
      go_ret
      exact ⟨rfl, HAk.out, ((frm_of_below HB2.out).trans HF.out (Sub.refl _ _))⟩
theorem skadd_any (w : World) (t : Nat) (S : Nat → Prop) (s : Sk) (h : SkS w t S s) (p : Pf) : Calls Try.prog 13 #[.pointer (some ⟨t, 0, none⟩), .agg #[.int .u64 (u p.a.hi), .int .u64 (u p.a.lo), .bool p.a.v6, .int .i64 p.n]] w fun e w' => e = .returned (.bool (s.does p)) ∧ SkPost S w t (s.add p) w' := by
  cases hs : psane p
  · refine (add_no11 w _ p (fun W _ => places_no W _ p hs)).mono ?_
    rintro e w' ⟨rfl, hb⟩
    refine ⟨by unfold Sk.does; rw [hs]; rfl, S, ?_, frm_of_below hb, Sub.refl _ _⟩
    unfold Sk.add
    rw [hs, if_neg (by simp)]
    exact h.keep hb
  · obtain ⟨v, g, rfl, hk, h⟩ := h
    refine (add_yes11 w t v g s h hk p hs).mono ?_
    rintro e w' ⟨rfl, h1, h2⟩
    refine ⟨by unfold Sk.does; rw [hs]; rfl, _, ⟨v, g, rfl, Sk.add_ok hk p, ?_⟩, h2, ?_⟩
    · unfold Sk.add
      rw [if_pos hs]
      exact h1
    · unfold Sk.add
      rw [if_pos hs]
      exact Sub.refl _ _
theorem nskadd_any (w : World) (p : Pf) : Calls Try.prog 13 #[.pointer none, .agg #[.int .u64 (u p.a.hi), .int .u64 (u p.a.lo), .bool p.a.v6, .int .i64 p.n]] w fun e w' => e = .returned (.bool false) ∧ Below w.heap.size w w' := add_no11 w _ p (fun W _ => places_nil W p)

end Go.Proofs.Ytpigdjlanabacaa

namespace Go.Proofs.Ytpigdjlanabacaa
open Go.RowKit
set_option maxRecDepth 100000

theorem mnN_bd {f : Nat → Nat} (h : ∀ i, f i ≤ 255) (k : Nat) : mnN f k ≤ 255 := by
  induction k with
  | zero => exact h 0
  | succ k ih => simp only [mnN]; omega
set_option maxHeartbeats 1000000 in
theorem count_no (w : World) (P : Option Addr) (p : Pf) (hc : ∀ W, Below w.heap.size w W → Calls Try.prog 23 #[.pointer P, .agg #[.int .u64 (u p.a.hi), .int .u64 (u p.a.lo), .bool p.a.v6, .int .i64 p.n]] W fun e w' => ∃ A c, e = .returned (.slice A 0 c) ∧ Below W.heap.size W w') : Calls Try.prog 15 #[.pointer P, .agg #[.int .u64 (u p.a.hi), .int .u64 (u p.a.lo), .bool p.a.v6, .int .i64 p.n]] w fun e w' => e = .returned (.int .i64 0) ∧ Below w.heap.size w w' := by
  have HC := Lib.hid hc
  clear hc
  go_enter Try.func15, Try.ntmps15
  go_wp2_with fail
  refine (HC.out _ (by go_grown)).mono ?_
  rintro e w1 ⟨A, c, rfl, b1⟩
  have b2 := below_of (w := w) (by go_grown) b1
  clear b1
  go_wp2
  go_ret
  exact ⟨rfl, b2⟩
set_option maxHeartbeats 2000000 in
theorem count_yes (w : World) (t : Nat) (v : Value) (g : Nat → Nat) (s : Sk) (h : SkA w t v g s) (hk : s.Ok) (p : Pf) (hs : psane p = true) (hn : 0 < s.n) : Calls Try.prog 15 #[.pointer (some ⟨t, 0, none⟩), .agg #[.int .u64 (u p.a.hi), .int .u64 (u p.a.lo), .bool p.a.v6, .int .i64 p.n]] w fun e w' => e = .returned (.int .i64 (mnN (fun i => s.C i (kpl s.m i p)) s.n)) ∧ Below w.heap.size w w' := by
  have HC := Lib.hid (places_yes (w.alloc (.cells #[.int .u64 (u p.a.hi), .int .u64 (u p.a.lo), .bool p.a.v6, .int .i64 p.n] 27)) t v g s (h.keep (by go_grown)) hk p hs)
  have HA := Lib.hid h
  have HK := Lib.hid hk
  have n4 := hk.n
  have m0 := hk.m0
  have HB := Lib.hid (mnN_bd (f := fun i => s.C i (kpl s.m i p)) (fun i => hk.C i _))
  clear h hs hk
  go_enter Try.func15, Try.ntmps15
  go_wp2_with fail
  refine HC.out.mono ?_
  rintro e w1 ⟨A, c, rfl, r1, -, b1⟩
  rw [plL_len]
  have b2 := below_of (w := w) (by go_grown) b1
  have HB2 := Lib.hid b2
  have HA1 := Lib.hid (HA.out.keep b2)
  have hrd : ∀ k, k < s.n → ∃ G off, A = some ⟨G, off, none⟩ ∧ G < w1.heap.size ∧ w1.cell? ⟨G, off + k, none⟩ = some (.pointer (some ⟨g k, kpl s.m k p, none⟩)) ∧ w1.cell? ⟨g k, kpl s.m k p, none⟩ = some (.int .u8 (s.C k (kpl s.m k p) : Int)) := fun k hlt => by
    obtain ⟨G, off, e, hG, r0⟩ := Kd.rd1 (K := KP) rfl r1 (k := k) (by rw [plL_len]; exact hlt)
    exact ⟨G, off, e, hG, by rw [r0]; simp [KP, plE, plL, plAt], (HA1.out.at (i := k) (k := kpl s.m k p) hlt (kpl_lt s.m k p (by omega))).1⟩
  have HRD := Lib.hid hrd
  have HCb := Lib.hid (fun k => HK.out.C k (kpl s.m k p))
  obtain ⟨G, off, rfl, hG, r2, r3⟩ := hrd 0 hn
  have hz : ((s.n : Int) == 0) = false := by simp; omega
  have hn' : (0 : Int) < (s.n : Int) := by omega
  have hM : Hid (∀ k, mnN (fun i => s.C i (kpl s.m i p)) (k + 1) = min (mnN (fun i => s.C i (kpl s.m i p)) k) (s.C k (kpl s.m k p))) := Lib.hid (fun k => rfl)
  have hM0 : Hid (mnN (fun i => s.C i (kpl s.m i p)) 0 = s.C 0 (kpl s.m 0 p)) := Lib.hid rfl
  generalize hF : mnN (fun i => s.C i (kpl s.m i p)) = F at HB hM hM0
  have HF := Lib.hid hF
  rw [Nat.add_zero] at r2
  clear r1 b1 b2 HC hrd hF
  go_wp2_with fail
  go_loopw [6, 22] (fun x i wr => ∃ k : Nat, k ≤ s.n ∧ i = .int .i64 k ∧ x = .int .u8 (F k : Int) ∧ w1 = wr) (fun _ i _ => s.n - (intOf i).toNat)
  case atStart => exact ⟨0, Nat.zero_le _, rfl, by rw [hM0.out], rfl⟩
  case round =>
    obtain ⟨k, hkn, rfl, rfl, rfl⟩ := hrel
    clear r2 r3
    by_cases hlt : k < s.n
    · have t1 : decide ((k : Int) < (s.n : Int)) = true := by simp; omega
      have k1 : (k : Int) < (s.n : Int) := by omega
      obtain ⟨G', off', e', -, r4, r5⟩ := HRD.out k hlt
      simp only [Option.some.injEq, Addr.mk.injEq, and_true] at e'
      obtain ⟨rfl, rfl⟩ := e'
      have hm := hM.out k
      generalize s.C k (kpl s.m k p) = x at r5 hm
      generalize kpl s.m k p = q at r4 r5
      have HM := Lib.hid hm
      obtain ⟨y, hy⟩ : ∃ y, F k = y := ⟨_, rfl⟩
      rw [hy] at HM ⊢
      clear hm hy
      by_cases h2 : y ≤ x
      · have h3 : (y : Int) ≤ (x : Int) := by omega
        rw [show min y x = y from by omega] at HM
        clear h2
        go_wp2
        go_roundw
        case rel => exact ⟨k + 1, by omega, by go_num, by rw [HM.out], trivial⟩
        case measure => simp [intOf]; omega
      · have h3 : (x : Int) < (y : Int) := by omega
        rw [show min y x = x from by omega] at HM
        clear h2
        go_wp2
        go_roundw
        case rel => exact ⟨k + 1, by omega, by go_num, by rw [HM.out], trivial⟩
        case measure => simp [intOf]; omega
    · obtain rfl : s.n = k := by omega
      have t1 : decide ((s.n : Int) < (s.n : Int)) = false := by simp
      have hb := HB.out s.n
      generalize hy : F s.n = y at hb ⊢
      have HY := Lib.hid hy
      clear hy
      go_wp2
      go_ret
      exact ⟨by rw [HF.out, HY.out]; rfl, HB2.out⟩
theorem skcount_any (w : World) (t : Nat) (S : Nat → Prop) (s : Sk) (h : SkS w t S s) (p : Pf) : Calls Try.prog 15 #[.pointer (some ⟨t, 0, none⟩), .agg #[.int .u64 (u p.a.hi), .int .u64 (u p.a.lo), .bool p.a.v6, .int .i64 p.n]] w fun e w' => e = .returned (.int .i64 (s.cnt p : Int)) ∧ Below w.heap.size w w' := by
  cases hs : psane p
  · have e : s.cnt p = 0 := by unfold Sk.cnt Sk.does; rw [hs]; rfl
    rw [e]
    exact count_no w _ p (fun W _ => (places_no W _ p hs).mono fun _ _ ⟨h1, h2⟩ => ⟨_, _, h1, h2⟩)
  · rcases Nat.eq_zero_or_pos s.n with h0 | h0
    · have e : s.cnt p = 0 := by unfold Sk.cnt Sk.does; rw [hs, h0]; rfl
      rw [e]
      obtain ⟨v, g, rfl, hk, h⟩ := h
      exact count_no w _ p (fun W hW => (places_yes W t v g s (h.keep hW) hk p hs).mono fun _ _ ⟨A, c, h1, h2, h3, h4⟩ => ⟨A, c, by rw [h1, plL_len, h0], h4⟩)
    · have e : s.cnt p = mnN (fun i => s.C i (kpl s.m i p)) s.n := by unfold Sk.cnt Sk.does; rw [hs]; simp [h0]
      rw [e]
      obtain ⟨v, g, rfl, hk, h⟩ := h
      exact count_yes w t v g s h hk p hs h0
theorem nskcount_any (w : World) (p : Pf) : Calls Try.prog 15 #[.pointer none, .agg #[.int .u64 (u p.a.hi), .int .u64 (u p.a.lo), .bool p.a.v6, .int .i64 p.n]] w fun e w' => e = .returned (.int .i64 0) ∧ Below w.heap.size w w' := count_no w _ p (fun W _ => (places_nil W p).mono fun _ _ ⟨h1, h2⟩ => ⟨_, _, h1, h2⟩)

end Go.Proofs.Ytpigdjlanabacaa

namespace Go.Proofs.Ytpigdjlanabacaa
open Go.RowKit
set_option maxRecDepth 100000

set_option maxHeartbeats 2000000 in
theorem decay_any (w : World) (t : Nat) (v : Value) (g : Nat → Nat) (s : Sk) (h : SkA w t v g s) (hk : s.Ok) : Calls Try.prog 11 #[.pointer (some ⟨t, 0, none⟩)] w fun e w' => e = .returned (.tuple #[]) ∧ SkA w' t v g s.dec ∧ Frm (fos t v g s.n) w w' := by
  have HC := Lib.hid (all_any w t v g s h)
  have HA := Lib.hid h
  have HK := Lib.hid hk
  have n4 := hk.n
  have m0 := hk.m0
  have m1 := hk.m
  obtain ⟨A, c, rfl, -⟩ := h.rd
  clear h hk
  go_enter Try.func11, Try.ntmps11
  go_wp2_with fail
  refine HC.out.mono ?_
  rintro e w1 ⟨rfl, rfl⟩
  go_wp2_with fail
  go_loopw [8] (fun i wr => ∃ k : Nat, k ≤ s.n ∧ i = .int .i64 k ∧ SkA wr t (.slice A s.n c) g (s.decJ k 0) ∧ Frm (fos t (.slice A s.n c) g s.n) w wr) (fun i _ => s.n - (intOf i).toNat)
  case atStart => exact ⟨0, Nat.zero_le _, rfl, by rw [Sk.decJ_zero]; exact HA.out, Frm.refl _ _⟩
  case round =>
    obtain ⟨k, hkn, rfl, ha, hf⟩ := hrel
    have HAk := Lib.hid ha
    have HF := Lib.hid hf
    clear ha hf
    by_cases hlt : k < s.n
    · have t1 : decide ((k : Int) < (s.n : Int)) = true := by simp; omega
      have k1 : (k : Int) < (s.n : Int) := by omega
      obtain ⟨G, off, e0, hG, r0⟩ := HAk.out.rowAt (i := k) hlt
      have r1 : wr.cell? ⟨G, off + k, none⟩ = some (.slice (some ⟨g k, 0, none⟩) s.m s.m) := r0
      subst e0
      clear r0
      go_wp2_with fail
      go_loopw [14] (fun i wr => ∃ j : Nat, j ≤ s.m ∧ i = .int .i64 j ∧ SkA wr t (.slice (some ⟨G, off, none⟩) s.n c) g (s.decJ k j) ∧ Frm (fos t (.slice (some ⟨G, off, none⟩) s.n c) g s.n) w wr) (fun i _ => s.m - (intOf i).toNat)
      case atStart => exact ⟨0, Nat.zero_le _, rfl, HAk.out, HF.out⟩
      case round =>
        obtain ⟨j, hjm, rfl, ha, hf⟩ := hrel
        have HAj := Lib.hid ha
        have HFj := Lib.hid hf
        clear ha hf r1 hG
        by_cases hlj : j < s.m
        · have t2 : decide ((j : Int) < (s.m : Int)) = true := by simp; omega
          have k2 : (j : Int) < (s.m : Int) := by omega
          obtain ⟨c0, f0, z0⟩ := HAj.out.at (i := k) (k := j) hlt hlj
          rw [Sk.decJ_at] at c0
          have hx := HK.out.C k j
          have HS := Lib.hid (HAj.out.set (i := k) (k := j) hlt hlj (s.C k j / 2))
          rw [Sk.decJ_succ] at HS
          have HF2 : Hid (∀ y, Frm (fos t (.slice (some ⟨G, off, none⟩) s.n c) g s.n) w (wr.setCell ⟨g k, j, none⟩ y)) := Lib.hid (fun y => HFj.out.setCell (p := ⟨g k, j, none⟩) (.inl (.inr (.inr ⟨k, hlt, rfl⟩))) y)
          generalize s.C k j = x at c0 hx HS
          have hd : (x : Int).tdiv 2 = ((x / 2 : Nat) : Int) := by rw [Int.tdiv_eq_ediv_of_nonneg (by omega)]; omega
          have hd2 : IntKind.u8.wrap ((x : Int).tdiv 2) = ((x / 2 : Nat) : Int) := by rw [hd, IntKind.wrap_u8]; omega
          clear hd
          go_wp2
          go_roundw
          case rel => exact ⟨j + 1, by omega, by go_num, HS.out, HF2.out _⟩
          case measure => simp [intOf]; omega
        · obtain rfl : s.m = j := by omega
          have t2 : decide ((s.m : Int) < (s.m : Int)) = false := by simp
          have HN := Lib.hid (HAj.out.eqv (Sk.decJ_next s k))
          go_wp2
          go_roundw
          case rel => exact ⟨k + 1, by omega, by go_num, HN.out, HFj.out⟩
          case measure => simp [intOf]; omega
    · obtain rfl : s.n = k := by omega
      have t1 : decide ((s.n : Int) < (s.n : Int)) = false := by simp
      go_wp2
      go_end0
      exact ⟨rfl, HAk.out, HF.out⟩
theorem skdecay_any (w : World) (t : Nat) (S : Nat → Prop) (s : Sk) (h : SkS w t S s) : Calls Try.prog 11 #[.pointer (some ⟨t, 0, none⟩)] w fun e w' => e = .returned (.tuple #[]) ∧ SkPost S w t s.dec w' := by
  obtain ⟨v, g, rfl, hk, h⟩ := h
  refine (decay_any w t v g s h hk).mono ?_
  rintro e w' ⟨rfl, h1, h2⟩
  exact ⟨rfl, _, ⟨v, g, rfl, Sk.decJ_ok hk _ _, h1⟩, h2, Sub.refl _ _⟩
theorem nskdecay_any (w : World) : Calls Try.prog 11 #[.pointer none] w fun e w' => e = .returned (.tuple #[]) ∧ w = w' := by
  go_enter Try.func11, Try.ntmps11
  go_wp2_with fail
  refine (nall_any _).mono ?_
  rintro e w3 ⟨rfl, rfl⟩
  go_wp2_with fail
  go_loopw [8] (fun i wr => i = .int .i64 0 ∧ w = wr) (fun i _ => 0)
  case atStart => exact ⟨rfl, rfl⟩
  case round =>
    obtain ⟨rfl, rfl⟩ := hrel
    go_wp2
    go_end0
    exact ⟨rfl, rfl⟩

/-- Rows of a kind apart lie in blocks apart. -/
theorem own_types {w : World} {b1 b2 n1 n2 z1 z2 : Nat} {e1 e2 : TypeId} {v1 v2 : Value} {xs ys : List Value} (h1 : w.ownsRow b1 e1 z1 v1 n1 xs) (h2 : w.ownsRow b2 e2 z2 v2 n2 ys) (hne : e1 ≠ e2) : ∀ b, v1.ownBlock = some b → v2.ownBlock ≠ some b := by
  intro b a1 a2
  obtain ⟨c1, d1⟩ := own_heap h1 a1
  obtain ⟨c2, d2⟩ := own_heap h2 a2
  rw [d1] at d2
  simp only [Option.some.injEq, Obj.cells.injEq] at d2
  exact hne d2.2.1
theorem info_sli : (Try.prog.info? 56).map (fun i => (i.zero, i.size, i.bytes)) = some (some (.slice none 0 0), 1, 24) := by kernel_rfl
theorem KR_ty : KR.Ty 56 31 := Kd.ty_of info_sli (by omega) rfl Try.underlying31
/-- Rows of numbers of one's own, one behind the other. -/
def RoR (B : Nat) (w : World) (L : List (List Nat)) (A : Option Addr) (c : Nat) : Prop :=
  ∃ xs : List Sl3, xs.length = L.length ∧ w.ownsRow B 56 1 (.slice A L.length c) L.length (KR.row xs) ∧ ∀ i (h : i < L.length) (h' : i < xs.length), xs[i].n = L[i].length ∧ w.ownsRow B 3 1 (.slice xs[i].A L[i].length xs[i].c) L[i].length (KN.row L[i])
theorem RoR.nil (B : Nat) (w : World) : RoR B w [] none 0 := ⟨[], rfl, World.ownsRow_nil _ _ _ _, fun i h => by simp at h⟩
theorem RoR.keep {B : Nat} {w w' : World} {L : List (List Nat)} {A : Option Addr} {c : Nat} (h : RoR B w L A c) (hb : Below w.heap.size w w') : RoR B w' L A c := by
  obtain ⟨xs, h1, h2, h3⟩ := h
  exact ⟨xs, h1, own_block h2 fun b _ hl => hb.block b hl, fun i a b => ⟨(h3 i a b).1, own_block (h3 i a b).2 fun b _ hl => hb.block b hl⟩⟩
theorem RoR.low {B B' : Nat} {w : World} {L : List (List Nat)} {A : Option Addr} {c : Nat} (h : RoR B w L A c) (hb : B' ≤ B) : RoR B' w L A c := by
  obtain ⟨xs, h1, h2, h3⟩ := h
  exact ⟨xs, h1, own_low h2 hb, fun i a b => ⟨(h3 i a b).1, own_low (h3 i a b).2 hb⟩⟩
theorem RoR.own {B : Nat} {w : World} {L : List (List Nat)} {A : Option Addr} {c : Nat} (h : RoR B w L A c) : ∃ xs : List Sl3, L.length = xs.length ∧ w.ownsRow B 56 1 (.slice A L.length c) L.length (KR.row xs) := by
  obtain ⟨xs, h1, h2, h3⟩ := h
  exact ⟨xs, h1.symm, h2⟩
/-- One row more. -/
theorem RoR.snoc {B : Nat} {w V w' : World} {L : List (List Nat)} {A A' A2 : Option Addr} {c c' c2 : Nat} {l : List Nat} {xs : List Sl3} (h : RoR B w L A c) (hx : w.ownsRow B 56 1 (.slice A L.length c) L.length (KR.row xs)) (hV : Below w.heap.size w V) (hl : V.ownsRow B 3 1 (.slice A2 l.length c2) l.length (KN.row l))
    (hG : KR.Grew 56 B (.slice A L.length c) (L.length + 1) (xs ++ [⟨A2, l.length, c2⟩]) V (.slice A' (L.length + 1) c') w') : RoR B w' (L ++ [l]) A' c' := by
  obtain ⟨ys, h1, h2, h3⟩ := h
  have hex : xs = ys := by
    have e1 : KR.row xs = KR.row ys := by
      rcases h2.2 with ⟨e, hn⟩ | ⟨g, cap, cur, e, _, hg, _, _, _, ht⟩
      · rw [List.eq_nil_of_length_eq_zero (h1.trans hn)]
        have := hx.1
        rw [KR.row_len, hn] at this
        have hk : xs.length = 0 := by simpa [KR] using this
        rw [List.eq_nil_of_length_eq_zero hk]
      · rcases hx.2 with ⟨e', hn⟩ | ⟨g', cap', cur', e', _, hg', _, _, _, ht'⟩
        · rw [e] at e'
          simp at e'
        · rw [e] at e'
          simp only [Value.slice.injEq, Option.some.injEq, Addr.mk.injEq, and_true, true_and] at e'
          obtain ⟨rfl, rfl⟩ := e'
          rw [hg] at hg'
          simp only [Option.some.injEq, Obj.cells.injEq, and_true] at hg'
          subst hg'
          rw [← ht, ← ht']
    clear h2 h3 hG
    have hlen : xs.length = ys.length := by
      have a1 := KR.row_len xs
      have a2 := KR.row_len ys
      rw [e1, a2] at a1
      simp only [KR] at a1
      omega
    clear h1 hx
    induction xs generalizing ys with
    | nil => exact (List.eq_nil_of_length_eq_zero hlen.symm).symm
    | cons x xs ih =>
      cases ys with
      | nil => simp at hlen
      | cons y ys =>
        rw [KR.row_cons, KR.row_cons] at e1
        obtain ⟨xA, xn, xc⟩ := x
        obtain ⟨yA, yn, yc⟩ := y
        simp only [KR, slE, List.cons_append, List.nil_append, List.cons.injEq, Value.slice.injEq] at e1
        obtain ⟨⟨rfl, rfl, rfl⟩, e2⟩ := e1
        rw [ih ys e2 (by simpa using hlen)]
  subst hex
  obtain ⟨g1, g2, g3, g4⟩ := hG
  refine ⟨xs ++ [⟨A2, l.length, c2⟩], by simp [h1], by rw [List.length_append]; exact g1, fun i hi hi' => ?_⟩
  have hown := own_block hx fun b _ hl => hV.block b hl
  rcases Nat.lt_or_ge i L.length with hlt | hge
  · have hx1 : i < xs.length := by omega
    obtain ⟨e1, e2⟩ := h3 i hlt hx1
    simp only [List.getElem_append_left hlt, List.getElem_append_left hx1]
    have e3 := own_block e2 (w' := V) fun b _ hl => hV.block b hl
    exact ⟨e1, own_other e3 g2 (fun b hb e => own_types e3 hown (by decide) b hb e)⟩
  · have hiL : i = L.length := by simp at hi; omega
    subst hiL
    simp only [List.getElem_append_right (Nat.le_refl _), Nat.sub_self, List.getElem_cons_zero]
    rw [List.getElem_append_right (by omega)]
    simp only [show L.length - xs.length = 0 by omega, List.getElem_cons_zero]
    exact ⟨trivial, own_other hl g2 (fun b hb e => own_types hl hown (by decide) b hb e)⟩
theorem RoR.rr {B : Nat} {w : World} {L : List (List Nat)} {A : Option Addr} {c : Nat} (h : RoR B w L A c) : RR KN w A L := by
  obtain ⟨xs, h1, h2, h3⟩ := h
  refine ⟨xs, h1, ?_, fun i hi hi' => ?_⟩
  · obtain ⟨A1, c1, e1, -, r1, -⟩ := KR.rd_own h2 h1.symm
    simp only [Value.slice.injEq, true_and] at e1
    rw [e1.1]
    exact r1
  · obtain ⟨a1, a2⟩ := h3 i hi hi'
    refine ⟨a1, ?_⟩
    obtain ⟨A1, c1, e1, -, r1, -⟩ := KN.rd_own a2 rfl
    simp only [Value.slice.injEq, true_and] at e1
    rw [e1.1]
    exact r1
def RoPost (w : World) (L : List (List Nat)) (e : Ending) (w' : World) : Prop := ∃ A c, e = .returned (.slice A L.length c) ∧ RR KN w' A L ∧ Below w.heap.size w w'

end Go.Proofs.Ytpigdjlanabacaa

namespace Go.Proofs.Ytpigdjlanabacaa
open Go.RowKit
set_option maxRecDepth 100000

def rowJ (s : Sk) (k j : Nat) : List Nat := (List.range s.m).map fun a => if a < j then s.C k a else 0
theorem rowJ_len (s : Sk) (k j : Nat) : (rowJ s k j).length = s.m := by simp [rowJ]
theorem rowJ_zero (s : Sk) (k : Nat) : rowJ s k 0 = List.replicate s.m 0 := by simp [rowJ, List.map_const']
theorem rowJ_set (s : Sk) (k j : Nat) : (rowJ s k j).set j (s.C k j) = rowJ s k (j + 1) := by
  unfold rowJ
  apply List.ext_getElem
  · simp
  · intro a a1 a2
    rw [List.getElem_set]
    simp only [List.getElem_map, List.getElem_range]
    by_cases ha : j = a
    · subst ha; simp
    · have hb : a < j + 1 ↔ a < j := by omega
      simp [ha, hb]
theorem rowJ_full (s : Sk) (k : Nat) : rowJ s k s.m = s.row k := by
  unfold rowJ Sk.row
  apply List.map_congr_left
  intro a ha
  rw [if_pos (List.mem_range.1 ha)]
theorem kn_zero (M : Nat) : KN.row (List.replicate M 0) = List.replicate M (.int .i64 0) := by
  induction M with
  | zero => rfl
  | succ M ih => rw [List.replicate_succ, KN.row_cons, ih]; rfl
def rowsJ (s : Sk) (k : Nat) : List (List Nat) := (List.range k).map s.row
theorem rowsJ_len (s : Sk) (k : Nat) : (rowsJ s k).length = k := by simp [rowsJ]
theorem rowsJ_succ (s : Sk) (k : Nat) : rowsJ s (k + 1) = rowsJ s k ++ [s.row k] := by simp [rowsJ, List.range_succ]
set_option maxHeartbeats 2000000 in
theorem rows_any (w : World) (t : Nat) (v : Value) (g : Nat → Nat) (s : Sk) (h : SkA w t v g s) (hk : s.Ok) : Calls Try.prog 18 #[.pointer (some ⟨t, 0, none⟩)] w (RoPost w s.rows) := by
  have HC := Lib.hid (all_any w t v g s h)
  have HA := Lib.hid h
  have HK := Lib.hid hk
  have n4 := hk.n
  have m0 := hk.m0
  have m1 := hk.m
  have mk : ∀ W : World, (Instr.makeSlice 56 (.int .i64 (s.m : Int)) (.int .i64 (s.m : Int))).run Try.prog W = .ok (.slice (some ⟨W.heap.size, 0, none⟩) s.m s.m) (W.alloc (.cells (madeCells #[.int .i64 0] s.m) 3)) := fun W => run_make_row' (P := Try.prog) 56 3 (.int .i64 0) 8 Try.underlying56 info_int rfl .i64 .i64 s.m (by omega) (by omega) W
  obtain ⟨A, c, rfl, -⟩ := h.rd
  clear h hk
  go_enter Try.func18, Try.ntmps18
  go_wp2_with fail
  refine HC.out.mono ?_
  rintro e w1 ⟨rfl, rfl⟩
  go_wp2_with fail
  go_loopw [3, 12] (fun x i wr => ∃ (k : Nat) (Ax : Option Addr) (cx : Nat), k ≤ s.n ∧ i = .int .i64 k ∧ x = .slice Ax k cx ∧ RoR w.heap.size wr (rowsJ s k) Ax cx ∧ Below w.heap.size w wr) (fun _ i _ => s.n - (intOf i).toNat)
  case atStart => exact ⟨0, none, 0, Nat.zero_le _, rfl, rfl, RoR.nil _ _, Below.refl _ _⟩
  case round =>
    obtain ⟨k, Ax, cx, hkn, rfl, rfl, hr, hb⟩ := hrel
    have HR := Lib.hid hr
    have HB := Lib.hid hb
    have HAk := Lib.hid (HA.out.keep hb)
    clear hr
    by_cases hlt : k < s.n
    · have t1 : decide ((k : Int) < (s.n : Int)) = true := by simp; omega
      have k1 : (k : Int) < (s.n : Int) := by omega
      obtain ⟨G, off, e0, hG, r0⟩ := HAk.out.rowAt (i := k) hlt
      have r1 : wr.cell? ⟨G, off + k, none⟩ = some (.slice (some ⟨g k, 0, none⟩) s.m s.m) := r0
      subst e0
      clear r0 hb
      go_wp2_with fail
      generalize wr = w8 at *
      go_loopw [21] (fun i wr => ∃ j : Nat, j ≤ s.m ∧ i = .int .i64 j ∧ wr.ownsRow w8.heap.size 3 1 (.slice (some ⟨w8.heap.size, 0, none⟩) s.m s.m) s.m (KN.row (rowJ s k j)) ∧ Below w8.heap.size w8 wr) (fun i _ => s.m - (intOf i).toNat)
      case atStart => exact ⟨0, Nat.zero_le _, rfl, by rw [rowJ_zero, kn_zero]; exact own_made (hp_new rfl) (by omega) (Nat.le_refl _), by go_grown⟩
      case round =>
        obtain ⟨j, hjm, rfl, ho, hb2⟩ := hrel
        have HO := Lib.hid ho
        have HB2 := Lib.hid hb2
        clear ho r1 hG
        by_cases hlj : j < s.m
        · have t2 : decide ((j : Int) < (s.m : Int)) = true := by simp; omega
          have k2 : (j : Int) < (s.m : Int) := by omega
          obtain ⟨c0, f0, z0⟩ := (HAk.out.keep hb2).at (i := k) (k := j) hlt hlj
          have hx := HK.out.C k j
          have f1 := HO.out.frozenAt j
          have z1 := (HO.out.lt _ rfl).2
          have HS := Lib.hid (Kd.own_set1 (K := KN) rfl HO.out j (by rw [rowJ_len]; exact hlj) (s.C k j) (.int .i64 (s.C k j : Int)) rfl)
          rw [rowJ_set] at HS
          have c9 : ∃ y, wr.cell? ⟨w8.heap.size, j, none⟩ = some y := by
            rw [HO.out.cellAt j (by omega)]
            exact ⟨_, List.getElem?_eq_getElem (by rw [KN.row_len, rowJ_len]; simp only [KN]; omega)⟩
          obtain ⟨y9, c9⟩ := c9
          generalize s.C k j = x at c0 hx HS
          clear hb2
          go_wp2
          go_roundw
          case rel => exact ⟨j + 1, by omega, by go_num, HS.out, HB2.out.setCell (p := ⟨w8.heap.size, j, none⟩) (Nat.le_refl _) _⟩
          case measure => simp [intOf]; omega
        · obtain rfl : s.m = j := by omega
          have t2 : decide ((s.m : Int) < (s.m : Int)) = false := by simp
          rw [rowJ_full] at HO
          have HR2 := Lib.hid (HR.out.keep hb2)
          have HBw := Lib.hid (HB.out.trans (hb2.mono HB.out.size))
          have zw := HBw.out.size
          have z8 := HB.out.size
          obtain ⟨xs, hxl, hxo⟩ := HR2.out.own
          rw [rowsJ_len] at hxl hxo
          have HXO := Lib.hid hxo
          clear hb2 hxo
          go_wp2_with (
            at_builtin
            refine Kd.wpList_one KR_ty rfl (.tmp 32) (.tmp 34) rfl w.heap.size _ k _ hxl (by rfl) (HXO.out.alloc _) wr.heap.size ⟨some ⟨w8.heap.size, 0, none⟩, s.m, s.m⟩ (by rfl) (hp_new rfl) (by omega) (by simp; omega) ?_
            intro A' c' w7 hG
            have HG7 := Lib.hid hG
            clear hG
            )
          go_roundw
          case rel =>
            have ho2 : (wr.alloc (.cells #[.slice (some ⟨w8.heap.size, 0, none⟩) s.m s.m] 56)).ownsRow w.heap.size 3 1 (.slice (some ⟨w8.heap.size, 0, none⟩) (s.row k).length s.m) (s.row k).length (KN.row (s.row k)) := by
              rw [Sk.row_len]
              exact own_low (HO.out.alloc _) z8
            have h3 := RoR.snoc (A2 := some ⟨w8.heap.size, 0, none⟩) (c2 := s.m) (l := s.row k) HR2.out (by rw [rowsJ_len]; exact HXO.out) (V := wr.alloc (.cells #[.slice (some ⟨w8.heap.size, 0, none⟩) s.m s.m] 56)) (by go_grown) ho2 (A' := A') (c' := c') (w' := w7) (by rw [rowsJ_len, Sk.row_len]; exact HG7.out)
            rw [← rowsJ_succ] at h3
            exact ⟨k + 1, A', c', by omega, by go_num, by rw [← hxl], h3, (HBw.out.alloc zw _).trans HG7.out.2.2.2⟩
          case measure => simp [intOf]; omega
    · obtain rfl : s.n = k := by omega
      have t1 : decide ((s.n : Int) < (s.n : Int)) = false := by simp
      clear hb
      go_wp2
      go_ret
      have e : s.rows = rowsJ s s.n := rfl
      exact ⟨Ax, cx, by rw [Sk.rows_len]; rfl, by rw [e]; exact HR.out.rr, HB.out⟩
theorem skrows_any (w : World) (t : Nat) (S : Nat → Prop) (s : Sk) (h : SkS w t S s) : Calls Try.prog 18 #[.pointer (some ⟨t, 0, none⟩)] w (RoPost w s.rows) := by
  obtain ⟨v, g, rfl, hk, h⟩ := h
  exact rows_any w t v g s h hk
theorem nskrows_any (w : World) : Calls Try.prog 18 #[.pointer none] w fun e w' => e = .returned (.slice none 0 0) ∧ w = w' := by
  go_enter Try.func18, Try.ntmps18
  go_wp2_with fail
  refine (nall_any _).mono ?_
  rintro e w3 ⟨rfl, rfl⟩
  go_wp2_with fail
  go_loopw [3, 12] (fun x i wr => x = .slice none 0 0 ∧ i = .int .i64 0 ∧ w = wr) (fun _ i _ => 0)
  case atStart => exact ⟨rfl, rfl, rfl⟩
  case round =>
    obtain ⟨rfl, rfl, rfl⟩ := hrel
    go_wp2
    go_ret
    exact ⟨rfl, rfl⟩

end Go.Proofs.Ytpigdjlanabacaa

namespace Go.Proofs.Ytpigdjlanabacaa
open Go.RowKit
set_option maxRecDepth 100000

/-- A sketch that was made since the world w0; the blocks of X are others. -/
def WK (X : Nat → Prop) (w0 : World) (t : Nat) (s : Sk) (wr : World) : Prop := ∃ S, SkS wr t S s ∧ (∀ b, S b → w0.heap.size ≤ b ∧ ¬ X b) ∧ (∀ b, X b → b < wr.heap.size) ∧ Below w0.heap.size w0 wr
def noXk : Nat → Prop := fun _ => False
section
variable {X : Nat → Prop} {w0 wr : World} {t : Nat} {s : Sk}
theorem WK.below (h : WK X w0 t s wr) : Below w0.heap.size w0 wr := by
  obtain ⟨S, h1, h2, h3, h4⟩ := h
  exact h4
theorem WK.ok (h : WK X w0 t s wr) : s.Ok := by
  obtain ⟨S, h1, -⟩ := h
  exact h1.ok
/-- Other blocks, of the client's, or new. -/
theorem WK.turn (h : WK X w0 t s wr) {X' : Nat → Prop} {w1 : World} (hb : Below wr.heap.size wr w1) (h1 : ∀ b, X' b → X b ∨ wr.heap.size ≤ b) (h2 : ∀ b, X' b → b < w1.heap.size) : WK X' w0 t s w1 := by
  obtain ⟨S, g1, g2, g3, g4⟩ := h
  refine ⟨S, g1.keep hb, fun b hS => ⟨(g2 b hS).1, fun hX => ?_⟩, h2, g4.trans (hb.mono g4.size)⟩
  rcases h1 b hX with e | e
  · exact (g2 b hS).2 e
  · have := g1.lt b hS
    omega
theorem WK.keep (h : WK X w0 t s wr) {w1 : World} (hb : Below wr.heap.size wr w1) : WK X w0 t s w1 :=
  h.turn hb (fun _ hx => .inl hx) (fun b hx => by obtain ⟨S, -, -, g3, -⟩ := h; exact Nat.lt_of_lt_of_le (g3 b hx) hb.size)
theorem WK.post (h : WK X w0 t s wr) {S : Nat → Prop} (hN : ∀ b, S b → w0.heap.size ≤ b ∧ ¬ X b) {s' : Sk} {S' : Nat → Prop} {w1 : World} (g1 : SkS w1 t S' s') (g2 : Frm S wr w1) (g3 : Sub S S' wr.heap.size) : WK X w0 t s' w1 ∧ ∀ b, X b → w1.heap[b]? = wr.heap[b]? := by
  have hz := h.below.size
  have hX : ∀ b, X b → b < wr.heap.size := by obtain ⟨S, -, -, g3, -⟩ := h; exact g3
  have hn : ∀ b, S' b → w0.heap.size ≤ b ∧ ¬ X b := fun b hb => by
    rcases g3 b hb with e | e
    · exact hN b e
    · exact ⟨by omega, fun hx => by have := hX b hx; omega⟩
  exact ⟨⟨S', g1, hn, fun b hx => Nat.lt_of_lt_of_le (hX b hx) g2.size, h.below.trans (g2.below (fun b hb => (hN b hb).1) hz)⟩, fun b hx => g2.block b (hX b hx) (fun e => (hN b e).2 hx)⟩
/-- A cell of the client's own is stored. -/
theorem WK.setCell (h : WK X w0 t s wr) {q : Nat} (hq : X q) (hq0 : w0.heap.size ≤ q) (j : Nat) (u : Value) : WK X w0 t s (wr.setCell ⟨q, j, none⟩ u) := by
  obtain ⟨S, g1, g2, g3, g4⟩ := h
  have hF : Frm (fun b => b = q) wr (wr.setCell ⟨q, j, none⟩ u) := Frm.setCell (S := fun b => b = q) (Frm.refl _ _) (p := ⟨q, j, none⟩) (.inl rfl) u
  exact ⟨S, g1.frm hF (fun b hS e => by subst e; exact (g2 b hS).2 hq), g2, fun b hx => Nat.lt_of_lt_of_le (g3 b hx) hF.size, g4.trans (hF.below (fun b e => by subst e; exact hq0) g4.size)⟩
theorem wk_add (h : WK X w0 t s wr) (p : Pf) : Calls Try.prog 13 #[.pointer (some ⟨t, 0, none⟩), .agg #[.int .u64 (u p.a.hi), .int .u64 (u p.a.lo), .bool p.a.v6, .int .i64 p.n]] wr fun e w' => e = .returned (.bool (s.does p)) ∧ WK X w0 t (s.add p) w' ∧ ∀ b, X b → w'.heap[b]? = wr.heap[b]? := by
  obtain ⟨S, h1, h2, h3, h4⟩ := id h
  exact (skadd_any wr t S s h1 p).mono fun _ _ ⟨he, S', g1, g2, g3⟩ => ⟨he, h.post h2 g1 g2 g3⟩
theorem wk_decay (h : WK X w0 t s wr) : Calls Try.prog 11 #[.pointer (some ⟨t, 0, none⟩)] wr fun e w' => e = .returned (.tuple #[]) ∧ WK X w0 t s.dec w' ∧ ∀ b, X b → w'.heap[b]? = wr.heap[b]? := by
  obtain ⟨S, h1, h2, h3, h4⟩ := id h
  exact (skdecay_any wr t S s h1).mono fun _ _ ⟨he, S', g1, g2, g3⟩ => ⟨he, h.post h2 g1 g2 g3⟩
theorem wk_count (h : WK X w0 t s wr) (p : Pf) : Calls Try.prog 15 #[.pointer (some ⟨t, 0, none⟩), .agg #[.int .u64 (u p.a.hi), .int .u64 (u p.a.lo), .bool p.a.v6, .int .i64 p.n]] wr fun e w' => e = .returned (.int .i64 (s.cnt p : Int)) ∧ Below wr.heap.size wr w' := by
  obtain ⟨S, h1, h2, h3, h4⟩ := id h
  exact skcount_any wr t S s h1 p
theorem wk_rows (h : WK X w0 t s wr) : Calls Try.prog 18 #[.pointer (some ⟨t, 0, none⟩)] wr (RoPost wr s.rows) := by
  obtain ⟨S, h1, h2, h3, h4⟩ := id h
  exact skrows_any wr t S s h1
end
theorem wk_new (rows width : Int) (w : World) : Calls Try.prog 9 #[.int .i64 rows, .int .i64 width] w fun e w' => ∃ t, e = .returned (.pointer (some ⟨t, 0, none⟩)) ∧ WK noXk w t (Sk.new rows width) w' :=
  (sknew_any rows width w).mono fun _ _ ⟨t, S, he, h1, h2, h3⟩ => ⟨t, he, S, h1, fun b hb => ⟨h3 b hb, id⟩, fun _ hx => hx.elim, h2⟩

theorem mnN_rel {R : Nat → Nat → Prop} (hR : ∀ a b a' b', R a a' → R b b' → R (min a b) (min a' b')) {f f' : Nat → Nat} (n : Nat) (h : ∀ i, i < n → R (f i) (f' i)) (hn : 0 < n) : R (mnN f n) (mnN f' n) := by
  induction n with
  | zero => omega
  | succ n ih =>
    rcases Nat.eq_zero_or_pos n with h0 | h0
    · subst h0
      exact hR _ _ _ _ (h 0 (by omega)) (h 0 (by omega))
    · exact hR _ _ _ _ (ih (fun i hi => h i (by omega)) h0) (h n (by omega))
theorem mnN_in {P : Nat → Prop} (hP : ∀ a b, P a → P b → P (min a b)) {f : Nat → Nat} (n : Nat) (h : ∀ i, i < n → P (f i)) (hn : 0 < n) : P (mnN f n) := mnN_rel (R := fun a _ => P a) (fun a b _ _ => hP a b) (f' := f) n h hn
theorem does_iff {s : Sk} {p : Pf} : s.does p = true ↔ psane p = true ∧ 0 < s.n := by unfold Sk.does; simp
theorem cnt_yes {s : Sk} {p : Pf} (h : s.does p = true) : s.cnt p = mnN (fun i => s.C i (kpl s.m i p)) s.n := by unfold Sk.cnt; rw [if_pos h]
theorem cnt_no {s : Sk} {p : Pf} (h : s.does p = false) : s.cnt p = 0 := by unfold Sk.cnt; rw [h, if_neg (by simp)]
theorem add_n (s : Sk) (p : Pf) : (s.add p).n = s.n := by unfold Sk.add; split <;> rfl
theorem add_m (s : Sk) (p : Pf) : (s.add p).m = s.m := by unfold Sk.add; split <;> rfl
theorem add_C {s : Sk} {p : Pf} (hs : psane p = true) {i : Nat} (hi : i < s.n) (k : Nat) : (s.add p).C i k = if k = kpl s.m i p then min (s.C i k) 254 + 1 else s.C i k := by
  unfold Sk.add
  rw [if_pos hs]
  simp [Sk.addJ, hi]
theorem dec_C {s : Sk} {i : Nat} (hi : i < s.n) (k : Nat) : s.dec.C i k = s.C i k / 2 := by simp [Sk.dec, Sk.decJ, hi]
theorem add_does (s : Sk) (p q : Pf) : (s.add p).does q = s.does q := by unfold Sk.does; rw [add_n]
theorem dec_does (s : Sk) (q : Pf) : s.dec.does q = s.does q := rfl
theorem add_not {s : Sk} {p : Pf} (h : s.does p = false) (q : Pf) : (s.add p).cnt q = s.cnt q := by
  cases hs : psane p
  · unfold Sk.add; rw [hs, if_neg (by simp)]
  · have h0 : s.n = 0 := by unfold Sk.does at h; rw [hs] at h; simpa using h
    have h1 : s.does q = false := by unfold Sk.does; rw [h0]; simp
    rw [cnt_no h1, cnt_no (by rw [add_does]; exact h1)]
theorem dec_cnt (s : Sk) (p : Pf) : s.dec.cnt p = s.cnt p / 2 := by
  cases h : s.does p
  · rw [cnt_no h, cnt_no ((dec_does s p).trans h)]
  · rw [cnt_yes h, cnt_yes ((dec_does s p).trans h)]
    exact mnN_rel (R := fun a b => a = b / 2) (fun a b a' b' h1 h2 => by omega) s.n (fun i hi => dec_C hi _) (does_iff.1 h).2
theorem add_cnt {s : Sk} (hk : s.Ok) (p q : Pf) : s.cnt q ≤ (s.add p).cnt q ∧ (s.add p).cnt q ≤ s.cnt q + 1 := by
  cases hp : s.does p
  · rw [add_not hp]; omega
  · obtain ⟨hs, hn⟩ := does_iff.1 hp
    cases h : s.does q
    · rw [cnt_no h, cnt_no ((add_does s p q).trans h)]; omega
    · rw [cnt_yes h, cnt_yes ((add_does s p q).trans h), add_m, add_n]
      refine mnN_rel (R := fun a b => a ≤ b ∧ b ≤ a + 1) (fun a b a' b' h1 h2 => by omega) s.n (fun i hi => ?_) hn
      rw [add_C hs hi]
      have := hk.C i (kpl s.m i q)
      show s.C i (kpl s.m i q) ≤ _ ∧ _ ≤ s.C i (kpl s.m i q) + 1
      split <;> omega
theorem add_self {s : Sk} {p : Pf} (h : s.does p = true) : (s.add p).cnt p = min (s.cnt p) 254 + 1 := by
  obtain ⟨hs, hn⟩ := does_iff.1 h
  rw [cnt_yes h, cnt_yes ((add_does s p p).trans h), add_m, add_n]
  refine mnN_rel (R := fun a b => a = min b 254 + 1) (fun a b a' b' h1 h2 => by omega) s.n (fun i hi => ?_) hn
  rw [add_C hs hi, if_pos rfl]
theorem new_cnt (rows width : Int) (p : Pf) : (Sk.new rows width).cnt p = 0 := by
  cases h : (Sk.new rows width).does p
  · exact cnt_no h
  · rw [cnt_yes h]
    exact mnN_in (P := fun a => a = 0) (fun a b h1 h2 => by omega) _ (fun i _ => rfl) (does_iff.1 h).2
theorem new_n (rows width : Int) : 0 < (Sk.new rows width).n := by simp only [Sk.new]; omega
theorem new_does (rows width : Int) (p : Pf) : (Sk.new rows width).does p = psane p := by
  unfold Sk.does
  have := new_n rows width
  simp [this]
theorem cnt_bd {s : Sk} (h : s.Ok) (p : Pf) : s.cnt p ≤ 255 := by
  cases hd : s.does p
  · rw [cnt_no hd]; omega
  · rw [cnt_yes hd]
    exact mnN_in (P := fun a => a ≤ 255) (fun a b h1 h2 => by omega) _ (fun i _ => h.C i _) (does_iff.1 hd).2

theorem nil_sane : psane nilP = true := by decide
theorem nil_pf : (.agg #[.int .u64 0, .int .u64 0, .bool false, .int .i64 0] : Value) = .agg #[.int .u64 (u nilP.a.hi), .int .u64 (u nilP.a.lo), .bool nilP.a.v6, .int .i64 nilP.n] := rfl
set_option maxHeartbeats 2000000 in
theorem awake11_any (w : World) : Calls Try.prog 8 #[] w fun e w' => e = .returned (.bool true) ∧ Below w.heap.size w w' := by
  have d0 : (Sk.new 2 16).does nilP = true := (new_does _ _ _).trans nil_sane
  have d1 : ((Sk.new 2 16).add nilP).does nilP = true := (add_does _ _ _).trans d0
  have d2 : (((Sk.new 2 16).add nilP).add nilP).does nilP = true := (add_does _ _ _).trans d1
  have E3 : Hid (((((Sk.new 2 16).add nilP).add nilP).add nilP).cnt nilP = 3) := Lib.hid (by rw [add_self d2, add_self d1, add_self d0, new_cnt]; rfl)
  have E4 : Hid (((((Sk.new 2 16).add nilP).add nilP).add nilP).dec.cnt nilP = 1) := Lib.hid (by rw [dec_cnt, E3.out])
  have E5 : Hid (((((Sk.new 2 16).add nilP).add nilP).add nilP).dec.rows.length = 2) := Lib.hid (by rw [Sk.rows_len]; show ((((Sk.new 2 16).add nilP).add nilP).add nilP).n = 2; rw [add_n, add_n, add_n]; rfl)
  have D2 := Lib.hid d2
  clear d0 d1 d2
  go_enter Try.func8, Try.ntmps8
  go_wp2_with fail
  refine (wk_new 2 16 w).mono ?_
  rintro e w1 ⟨t, rfl, h1⟩
  have H1 := Lib.hid h1
  clear h1
  go_wp2_with fail
  refine (wk_add H1.out nilP).mono ?_
  rintro e w2 ⟨rfl, h2, -⟩
  have H2 := Lib.hid h2
  clear h2 H1
  go_wp2_with fail
  refine (wk_add H2.out nilP).mono ?_
  rintro e w3 ⟨rfl, h3, -⟩
  have H3 := Lib.hid h3
  clear h3 H2
  go_wp2_with fail
  refine (wk_add H3.out nilP).mono ?_
  rw [D2.out]
  rintro e w4 ⟨rfl, h4, -⟩
  have H4 := Lib.hid h4
  clear h4 H3
  go_wp2_with fail
  refine (wk_count H4.out nilP).mono ?_
  rw [E3.out]
  rintro e w5 ⟨rfl, b5⟩
  have H5 := Lib.hid (H4.out.keep b5)
  clear b5 H4
  go_wp2_with fail
  refine (wk_decay H5.out).mono ?_
  rintro e w6 ⟨rfl, h6, -⟩
  have H6 := Lib.hid h6
  clear h6 H5
  go_wp2_with fail
  refine (wk_count H6.out nilP).mono ?_
  rw [E4.out]
  rintro e w7 ⟨rfl, b7⟩
  have H7 := Lib.hid (H6.out.keep b7)
  clear b7 H6
  go_wp2_with fail
  refine (wk_rows H7.out).mono ?_
  rintro e w8 ⟨A, c, rfl, -, b8⟩
  have H8 := Lib.hid (H7.out.keep b8)
  rw [E5.out]
  go_wp2
  go_ret
  exact ⟨rfl, H8.out.below⟩

end Go.Proofs.Ytpigdjlanabacaa

namespace Go.Proofs.Ytpigdjlanabacaa
open Go.RowKit
set_option maxRecDepth 100000

def pfE (p : Pf) : List Value := [.int .u64 (u p.a.hi), .int .u64 (u p.a.lo), .bool p.a.v6, .int .i64 p.n]
def KPf : Kd Pf := ⟨pfE, 4, by decide, fun _ => rfl, fun x u h => by simp [pfE] at h; rcases h with rfl | rfl | rfl | rfl <;> rfl⟩
/-- A thing done. -/
structure Ac11 where
  dc : Bool
  p : Pf
def ac11E (a : Ac11) : List Value := [.bool a.dc, .int .u64 (u a.p.a.hi), .int .u64 (u a.p.a.lo), .bool a.p.a.v6, .int .i64 a.p.n]
def KA11 : Kd Ac11 := ⟨ac11E, 5, by decide, fun _ => rfl, fun x u h => by simp [ac11E] at h; rcases h with rfl | rfl | rfl | rfl | rfl <;> rfl⟩
theorem kpf_at {w : World} {A : Option Addr} {l : List Pf} (h : KPf.Rd w A l) {k : Nat} (hk : k < l.length) : ∃ g off, A = some ⟨g, off, none⟩ ∧ ∀ W, Below w.heap.size w W → g < W.heap.size ∧ W.cell? ⟨g, off + k * 4, none⟩ = some (.int .u64 (u l[k].a.hi)) ∧ W.cell? ⟨g, off + k * 4 + 1, none⟩ = some (.int .u64 (u l[k].a.lo)) ∧ W.cell? ⟨g, off + k * 4 + 2, none⟩ = some (.bool l[k].a.v6) ∧ W.cell? ⟨g, off + k * 4 + 3, none⟩ = some (.int .i64 l[k].n) := by
  obtain ⟨g, off, e, hg, hc⟩ := h (by rintro rfl; cases hk)
  exact ⟨g, off, e, fun W hB => ⟨Nat.lt_of_lt_of_le hg hB.size, (hB.cell (p := ⟨g, off + k * 4, none⟩) hg).trans (hc k hk 0 (by decide)), (hB.cell (p := ⟨g, off + k * 4 + 1, none⟩) hg).trans (hc k hk 1 (by decide)), (hB.cell (p := ⟨g, off + k * 4 + 2, none⟩) hg).trans (hc k hk 2 (by decide)), (hB.cell (p := ⟨g, off + k * 4 + 3, none⟩) hg).trans (hc k hk 3 (by decide))⟩⟩
theorem ka11_at {w : World} {A : Option Addr} {l : List Ac11} (h : KA11.Rd w A l) {k : Nat} (hk : k < l.length) : ∃ g off, A = some ⟨g, off, none⟩ ∧ ∀ W, Below w.heap.size w W → g < W.heap.size ∧ W.cell? ⟨g, off + k * 5, none⟩ = some (.bool l[k].dc) ∧ W.cell? ⟨g, off + k * 5 + 1, none⟩ = some (.int .u64 (u l[k].p.a.hi)) ∧ W.cell? ⟨g, off + k * 5 + 2, none⟩ = some (.int .u64 (u l[k].p.a.lo)) ∧ W.cell? ⟨g, off + k * 5 + 3, none⟩ = some (.bool l[k].p.a.v6) ∧ W.cell? ⟨g, off + k * 5 + 4, none⟩ = some (.int .i64 l[k].p.n) := by
  obtain ⟨g, off, e, hg, hc⟩ := h (by rintro rfl; cases hk)
  exact ⟨g, off, e, fun W hB => ⟨Nat.lt_of_lt_of_le hg hB.size, (hB.cell (p := ⟨g, off + k * 5, none⟩) hg).trans (hc k hk 0 (by decide)), (hB.cell (p := ⟨g, off + k * 5 + 1, none⟩) hg).trans (hc k hk 1 (by decide)), (hB.cell (p := ⟨g, off + k * 5 + 2, none⟩) hg).trans (hc k hk 2 (by decide)), (hB.cell (p := ⟨g, off + k * 5 + 3, none⟩) hg).trans (hc k hk 3 (by decide)), (hB.cell (p := ⟨g, off + k * 5 + 4, none⟩) hg).trans (hc k hk 4 (by decide))⟩⟩
/-- A prefix in a box of the client's own. -/
def PB (w0 : World) (b : Nat) (p : Pf) : Prop := w0.heap[b]? = some (.cells #[.int .u64 (u p.a.hi), .int .u64 (u p.a.lo), .bool p.a.v6, .int .i64 p.n] 27 (0, 0))
theorem PB.keep {w0 W : World} {b : Nat} {p : Pf} (h : PB w0 b p) (hb : Below w0.heap.size w0 W) : PB W b p := (hb.block _ (lt_of_block h)).trans h
theorem PB.at {w0 : World} {b : Nat} {p : Pf} (h : PB w0 b p) : b < w0.heap.size ∧ w0.cell? ⟨b, 0, none⟩ = some (.int .u64 (u p.a.hi)) ∧ w0.cell? ⟨b, 1, none⟩ = some (.int .u64 (u p.a.lo)) ∧ w0.cell? ⟨b, 2, none⟩ = some (.bool p.a.v6) ∧ w0.cell? ⟨b, 3, none⟩ = some (.int .i64 p.n) := by
  unfold PB at h
  exact ⟨lt_of_block h, by rw [cell_row h]; rfl, by rw [cell_row h]; rfl, by rw [cell_row h]; rfl, by rw [cell_row h]; rfl⟩
theorem PB.made (w : World) (p : Pf) {W : World} (hb : Below (w.alloc (.cells #[.int .u64 (u p.a.hi), .int .u64 (u p.a.lo), .bool p.a.v6, .int .i64 p.n] 27)).heap.size (w.alloc (.cells #[.int .u64 (u p.a.hi), .int .u64 (u p.a.lo), .bool p.a.v6, .int .i64 p.n] 27)) W) : PB W w.heap.size p := (hb.block _ (by simp)).trans (hp_new rfl)

end Go.Proofs.Ytpigdjlanabacaa
