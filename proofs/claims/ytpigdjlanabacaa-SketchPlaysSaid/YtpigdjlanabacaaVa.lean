/-
  Plain functions: what package wire computes, on lists of bytes; a list of bytes that lies in memory. No condition.
-/
import Derived.Test.YtpigdjlanabacaaMathP
import Derived.Test.YtpigdjlanabacaaLawE
namespace Go.Proofs.Ytpigdjlanabacaa
open Go.RowKit

/-- A route as the program holds it. -/
structure Rt where
  p : Pf
  hop : Int
deriving DecidableEq

def rtB (h l : Int) (v : Bool) (n o : Int) (h' l' : Int) (v' : Bool) (n' o' : Int) : Bool := pfB h l v n h' l' v' n' && o == o'
@[simp] theorem rtB_self (h l : Int) (v : Bool) (n o : Int) : rtB h l v n o h l v n o = true := by simp [rtB]
@[simp] theorem eq_rt (h l h' l' : Int) (v v' : Bool) (n n' o o' : Int) (w : World) :
    (Op.equalIn 10000 69 (.agg #[.int .u64 h, .int .u64 l, .bool v, .int .i64 n, .int .i64 o]) (.agg #[.int .u64 h', .int .u64 l', .bool v', .int .i64 n', .int .i64 o'])).run Try.prog w = .ok (rtB h l v n o h' l' v' n' o') w := by
  rw [show (10000 : Nat) = 9999 + 1 from rfl, run_equalIn_struct w 9999 _ _ _ (by kernel_rfl) Try.stoodInHeld69]
  simp [go_sem, rtB, pfB, adB]
  by_cases h1 : h = h' <;> by_cases h2 : l = l' <;> by_cases h3 : v = v' <;> by_cases h4 : n = n' <;> by_cases h5 : o = o' <;> simp [h1, h2, h3, h4, h5]
def rtEq (r s : Rt) : Bool := rtB (u r.p.a.hi) (u r.p.a.lo) r.p.a.v6 r.p.n r.hop (u s.p.a.hi) (u s.p.a.lo) s.p.a.v6 s.p.n s.hop
theorem rtEq_iff (r s : Rt) : rtEq r s = true ↔ r = s := by
  obtain ⟨p, n⟩ := r
  obtain ⟨q, m⟩ := s
  have h := pfEq_iff p q
  unfold rtEq rtB
  rw [Bool.and_eq_true, beq_iff_eq]
  unfold pfEq at h
  rw [h]
  simp

theorem cells5 {W w1 : World} {b : Nat} {c0 c1 c2 c3 c4 : Value} (hb : Below W.heap.size W w1) (hlt : b < W.heap.size) (h0 : W.cell? ⟨b, 0, none⟩ = some c0) (h1 : W.cell? ⟨b, 1, none⟩ = some c1) (h2 : W.cell? ⟨b, 2, none⟩ = some c2) (h3 : W.cell? ⟨b, 3, none⟩ = some c3) (h4 : W.cell? ⟨b, 4, none⟩ = some c4)
    (f0 : W.frozen? ⟨b, 0, none⟩ = false) (f1 : W.frozen? ⟨b, 1, none⟩ = false) (f2 : W.frozen? ⟨b, 2, none⟩ = false) (f3 : W.frozen? ⟨b, 3, none⟩ = false) (f4 : W.frozen? ⟨b, 4, none⟩ = false) :
    w1.cell? ⟨b, 0, none⟩ = some c0 ∧ w1.cell? ⟨b, 1, none⟩ = some c1 ∧ w1.cell? ⟨b, 2, none⟩ = some c2 ∧ w1.cell? ⟨b, 3, none⟩ = some c3 ∧ w1.cell? ⟨b, 4, none⟩ = some c4 ∧
      w1.frozen? ⟨b, 0, none⟩ = false ∧ w1.frozen? ⟨b, 1, none⟩ = false ∧ w1.frozen? ⟨b, 2, none⟩ = false ∧ w1.frozen? ⟨b, 3, none⟩ = false ∧ w1.frozen? ⟨b, 4, none⟩ = false ∧ b < w1.heap.size :=
  ⟨(hb.cell hlt).trans h0, (hb.cell hlt).trans h1, (hb.cell hlt).trans h2, (hb.cell hlt).trans h3, (hb.cell hlt).trans h4, (hb.frozen hlt).trans f0, (hb.frozen hlt).trans f1, (hb.frozen hlt).trans f2, (hb.frozen hlt).trans f3, (hb.frozen hlt).trans f4, Nat.lt_of_lt_of_le hlt hb.size⟩

theorem cut2 {B : Nat} {W w1 : World} {b : Nat} {c0 c1 : Value} (hb : Below B W w1) (hz : B ≤ w1.heap.size) (hlt : b < B) (h0 : W.cell? ⟨b, 0, none⟩ = some c0) (h1 : W.cell? ⟨b, 1, none⟩ = some c1)
    (f0 : W.frozen? ⟨b, 0, none⟩ = false) (f1 : W.frozen? ⟨b, 1, none⟩ = false) :
    w1.cell? ⟨b, 0, none⟩ = some c0 ∧ w1.cell? ⟨b, 1, none⟩ = some c1 ∧ w1.frozen? ⟨b, 0, none⟩ = false ∧ w1.frozen? ⟨b, 1, none⟩ = false ∧ b < w1.heap.size :=
  ⟨(hb.cell hlt).trans h0, (hb.cell hlt).trans h1, (hb.frozen hlt).trans f0, (hb.frozen hlt).trans f1, Nat.lt_of_lt_of_le hlt hz⟩
theorem cut4 {B : Nat} {W w1 : World} {b : Nat} {c0 c1 c2 c3 : Value} (hb : Below B W w1) (hz : B ≤ w1.heap.size) (hlt : b < B) (h0 : W.cell? ⟨b, 0, none⟩ = some c0) (h1 : W.cell? ⟨b, 1, none⟩ = some c1) (h2 : W.cell? ⟨b, 2, none⟩ = some c2) (h3 : W.cell? ⟨b, 3, none⟩ = some c3)
    (f0 : W.frozen? ⟨b, 0, none⟩ = false) (f1 : W.frozen? ⟨b, 1, none⟩ = false) (f2 : W.frozen? ⟨b, 2, none⟩ = false) (f3 : W.frozen? ⟨b, 3, none⟩ = false) :
    w1.cell? ⟨b, 0, none⟩ = some c0 ∧ w1.cell? ⟨b, 1, none⟩ = some c1 ∧ w1.cell? ⟨b, 2, none⟩ = some c2 ∧ w1.cell? ⟨b, 3, none⟩ = some c3 ∧
      w1.frozen? ⟨b, 0, none⟩ = false ∧ w1.frozen? ⟨b, 1, none⟩ = false ∧ w1.frozen? ⟨b, 2, none⟩ = false ∧ w1.frozen? ⟨b, 3, none⟩ = false ∧ b < w1.heap.size :=
  ⟨(hb.cell hlt).trans h0, (hb.cell hlt).trans h1, (hb.cell hlt).trans h2, (hb.cell hlt).trans h3, (hb.frozen hlt).trans f0, (hb.frozen hlt).trans f1, (hb.frozen hlt).trans f2, (hb.frozen hlt).trans f3, Nat.lt_of_lt_of_le hlt hz⟩

/-- How many bytes digits need. -/
def need (n : Int) : Nat := ((n + 7) / 8).toNat
def kindOf (v : Bool) : Int := if v then 6 else 4
def putP (p : Pf) : List Int := if psane p = true then kindOf p.a.v6 :: p.n :: (List.range (need p.n)).map (byteAt p.a) else []
def rgood (r : Rt) : Bool := psane r.p && decide (0 ≤ r.hop) && decide (r.hop ≤ 65535)
def putR (r : Rt) : List Int := if rgood r = true then putP r.p ++ [r.hop / 256, r.hop % 256] else []
def putL (l : List Rt) : List Int := l.flatMap putR
def at0 (l : List Int) (j : Nat) : Int := l.getD j 0
/-- The first k bytes, then zeros. -/
def firstK (l : List Int) (k j : Nat) : Int := if j < k then at0 l j else 0
/-- The head that stands first: kind, N, the error. -/
def headE (l : List Int) : Int :=
  if l.length < 2 then 6 else if at0 l 0 ≠ 4 ∧ at0 l 0 ≠ 6 then 5 else if wid (at0 l 0 == 6) < at0 l 1 then 1 else 0
/-- The prefix that has a head. -/
def digP (v : Bool) (n : Int) (l : List Int) : Pf := ⟨fromv (firstK l (need n)) v, n⟩
def digE (v : Bool) (n : Int) (l : List Int) : Int := if l.length < need n then 6 else if psane (digP v n l) = true then 0 else 1
def getE (l : List Int) : Int := if headE l = 0 then digE (at0 l 0 == 6) (at0 l 1) (l.drop 2) else headE l
def getP (l : List Int) : Pf := if getE l = 0 then digP (at0 l 0 == 6) (at0 l 1) (l.drop 2) else nilP
def getN (l : List Int) : Nat := if getE l = 0 then 2 + need (at0 l 1) else 0
def nilR : Rt := ⟨nilP, 0⟩
def hopE (l : List Int) : Int := if l.length < 2 then 6 else 0
def grE (l : List Int) : Int := if getE l = 0 then hopE (l.drop (getN l)) else getE l
def grR (l : List Int) : Rt := if grE l = 0 then ⟨getP l, at0 l (getN l) * 256 + at0 l (getN l + 1)⟩ else nilR
def grN (l : List Int) : Nat := if grE l = 0 then getN l + 2 else 0
/-- Routes up to the end: f rounds at most. -/
def galF : Nat → List Int → List Rt × Int
  | 0, _ => ([], 0)
  | f + 1, l => if l.length = 0 then ([], 0) else if grE l = 0 then (if (galF f (l.drop (grN l))).2 = 0 then (grR l :: (galF f (l.drop (grN l))).1, 0) else ([], (galF f (l.drop (grN l))).2)) else ([], grE l)
def galR (l : List Int) : List Rt := (galF l.length l).1
def galE (l : List Int) : Int := (galF l.length l).2

/-- Bytes that lie in memory, as a slice says. -/
def Rd (w : World) (A : Option Addr) (c : Nat) (l : List Int) : Prop :=
  l.length ≤ c ∧ c ≤ maxLen ∧ (∀ x ∈ l, 0 ≤ x ∧ x < 256) ∧ (l ≠ [] → ∃ g off, A = some ⟨g, off, none⟩ ∧ g < w.heap.size ∧ ∀ j, j < l.length → w.cell? ⟨g, off + j, none⟩ = some (.int .u8 (at0 l j)))
theorem Rd.keep {w w' : World} {A : Option Addr} {c : Nat} {l : List Int} (h : Rd w A c l) (hb : Below w.heap.size w w') : Rd w' A c l :=
  ⟨h.1, h.2.1, h.2.2.1, fun hn => by
    obtain ⟨g, off, e, hg, hc⟩ := h.2.2.2 hn
    exact ⟨g, off, e, Nat.lt_of_lt_of_le hg hb.size, fun j hj => (hb.cell (p := ⟨g, off + j, none⟩) hg).trans (hc j hj)⟩⟩
theorem at0_bd {l : List Int} (h : ∀ x ∈ l, 0 ≤ x ∧ x < 256) (j : Nat) : 0 ≤ at0 l j ∧ at0 l j < 256 := by
  unfold at0
  rw [List.getD_eq_getElem?_getD]
  rcases Nat.lt_or_ge j l.length with hj | hj
  · rw [List.getElem?_eq_getElem hj]
    exact h _ (List.getElem_mem hj)
  · rw [List.getElem?_eq_none hj]
    simp
theorem at0_drop (l : List Int) (k j : Nat) : at0 (l.drop k) j = at0 l (k + j) := by
  unfold at0
  rw [List.getD_eq_getElem?_getD, List.getD_eq_getElem?_getD, List.getElem?_drop]
theorem at0_take (l : List Int) (k j : Nat) (h : j < k) : at0 (l.take k) j = at0 l j := by
  unfold at0
  rw [List.getD_eq_getElem?_getD, List.getD_eq_getElem?_getD, List.getElem?_take_of_lt h]
theorem bd_drop {l : List Int} (h : ∀ x ∈ l, 0 ≤ x ∧ x < 256) (k : Nat) : ∀ x ∈ l.drop k, 0 ≤ x ∧ x < 256 := fun x hx => h x (List.mem_of_mem_drop hx)
theorem bd_take {l : List Int} (h : ∀ x ∈ l, 0 ≤ x ∧ x < 256) (k : Nat) : ∀ x ∈ l.take k, 0 ≤ x ∧ x < 256 := fun x hx => h x (List.mem_of_mem_take hx)
/-- The address of a slice's rest. -/
def cutA (A : Option Addr) (c k : Nat) : Option Addr := if c = k then A else A.map (·.add k)
theorem add_plain' (g off k : Nat) : (⟨g, off, none⟩ : Addr).add k = ⟨g, off + k, none⟩ := by unfold Addr.add; split <;> simp_all
theorem Rd.cut {w : World} {A : Option Addr} {c : Nat} {l : List Int} (h : Rd w A c l) (k : Nat) (hk : k ≤ l.length) : Rd w (cutA A c k) (c - k) (l.drop k) := by
  obtain ⟨h1, h2, h3, h4⟩ := h
  refine ⟨by rw [List.length_drop]; omega, by omega, bd_drop h3 k, fun hn => ?_⟩
  have hlt : k < l.length := by
    rcases Nat.lt_or_ge k l.length with h | h
    · exact h
    · exact absurd (List.drop_eq_nil_of_le h) hn
  obtain ⟨g, off, rfl, hg, hc⟩ := h4 (fun e => by rw [e] at hlt; simp at hlt)
  refine ⟨g, off + k, ?_, hg, fun j hj => ?_⟩
  · unfold cutA
    rw [if_neg (by omega), Option.map_some, add_plain']
  · rw [at0_drop, Nat.add_assoc]
    exact hc _ (by rw [List.length_drop] at hj; omega)
theorem Rd.first {w : World} {A : Option Addr} {c : Nat} {l : List Int} (h : Rd w A c l) (k : Nat) (hk : k ≤ l.length) : Rd w A c (l.take k) := by
  obtain ⟨h1, h2, h3, h4⟩ := h
  refine ⟨by rw [List.length_take]; omega, h2, bd_take h3 k, fun hn => ?_⟩
  obtain ⟨g, off, rfl, hg, hc⟩ := h4 (fun e => hn (by rw [e]; simp))
  refine ⟨g, off, rfl, hg, fun j hj => ?_⟩
  have hj' : j < k := by rw [List.length_take] at hj; omega
  rw [at0_take _ _ _ hj']
  exact hc _ (by rw [List.length_take] at hj; omega)
theorem Rd.at_ {w : World} {A : Option Addr} {c : Nat} {l : List Int} (h : Rd w A c l) (hn : 0 < l.length) : ∃ g off, A = some ⟨g, off, none⟩ ∧ g < w.heap.size ∧ ∀ j, j < l.length → w.cell? ⟨g, off + j, none⟩ = some (.int .u8 (at0 l j)) :=
  h.2.2.2 (fun e => by rw [e] at hn; simp at hn)
theorem slice_from (A : Option Addr) (n c k : Nat) (hk : k ≤ n) (w : World) :
    (Instr.slice 55 (.slice A n c) (some (.int .i64 (k : Int))) none none).run Try.prog w = .ok (.slice (cutA A c k) (n - k) (c - k)) w := by
  obtain ⟨i0, hi0, hz0, hz1, hz2⟩ := info_parts info_u8
  rw [run_slice_l w 55 A n c (by kernel_rfl) .i64 k (by omega) (by omega)]
  simp [go_sem, sizeOf, typeInfo, hi0, hz1, cutA]
theorem slice_to (A : Option Addr) (n c k : Nat) (hk : k ≤ n) (hn : n ≤ c) (w : World) :
    (Instr.slice 55 (.slice A n c) none (some (.int .i64 (k : Int))) none).run Try.prog w = .ok (.slice A k c) w := by
  obtain ⟨i0, hi0, hz0, hz1, hz2⟩ := info_parts info_u8
  rw [run_slice_h w 55 A n c (by kernel_rfl) .i64 k (by omega) (by omega)]
  simp [go_sem, sizeOf, typeInfo, hi0, hz1]
theorem bytes_rd {w : World} {A : Option Addr} {len cap : Nat} {zs : List Int} (h : IsBytes w A len cap zs) : ∃ l : List Int, len = l.length ∧ Rd w A cap l := by
  rcases h with ⟨rfl, rfl, rfl, rfl⟩ | ⟨x, rfl, hl, hm, hlen, hcell, hb⟩
  · exact ⟨[], rfl, Nat.le_refl _, Nat.zero_le _, fun x hx => absurd hx (List.not_mem_nil), fun h => absurd rfl h⟩
  · refine ⟨zs.take len, by rw [List.length_take]; omega, by rw [List.length_take]; omega, hm, bd_take hb len, fun hn => ?_⟩
    have hp : 0 < zs.length := by
      rcases zs with _ | ⟨z, zs⟩
      · simp at hn
      · simp
    obtain ⟨b, off, rfl, hc⟩ := ints_at hcell hp
    have hg : b < w.heap.size := World.block_lt_of_cell? w ⟨b, off + 0, none⟩ (hc 0 hp)
    refine ⟨b, off, rfl, hg, fun j hj => ?_⟩
    rw [List.length_take] at hj
    rw [at0_take _ _ _ (by omega)]
    exact hc j (by omega)

/-- Bytes as cells. -/
def bv (l : List Int) : List Value := l.map (Value.int .u8)
theorem bv_append (a b : List Int) : bv (a ++ b) = bv a ++ bv b := List.map_append
theorem bv_len (a : List Int) : (bv a).length = a.length := List.length_map ..
theorem bv_one (a : List Int) : ∀ u ∈ bv a, u.oneCell' = true := by
  intro u hu
  obtain ⟨x, _, rfl⟩ := List.mem_map.1 hu
  rfl
theorem own_rd {w : World} {base : Nat} {v : Value} {n : Nat} {l : List Int} (h : w.ownsRow base 5 1 v n (bv l)) (hb : ∀ x ∈ l, 0 ≤ x ∧ x < 256) : n = l.length ∧ ∃ A c, v = .slice A n c ∧ Rd w A c l := by
  have hl : n = l.length := by have := h.1; rw [bv_len] at this; omega
  refine ⟨hl, ?_⟩
  rcases h.2 with ⟨rfl, hn⟩ | ⟨g, cap, cur, rfl, _, hg, hnc, hm, hs, ht⟩
  · subst hn
    have e : l = [] := List.eq_nil_of_length_eq_zero hl.symm
    subst e
    exact ⟨none, 0, rfl, Nat.le_refl _, Nat.zero_le _, hb, fun h => absurd rfl h⟩
  · refine ⟨_, cap, rfl, by omega, hm, hb, fun hne => ⟨g, 0, rfl, ?_, fun j hj => ?_⟩⟩
    · rcases Nat.lt_or_ge g w.heap.size with h1 | h1
      · exact h1
      · rw [Array.getElem?_eq_none h1] at hg; cases hg
    · have := h.cells (g := g) rfl j (.int .u8 (at0 l j)) (by
        unfold bv at0
        rw [List.getElem?_map, List.getElem?_eq_getElem hj, List.getD_eq_getElem?_getD, List.getElem?_eq_getElem hj]
        rfl)
      rw [add_plain'] at this
      exact this
theorem Rd.news {w : World} {A : Option Addr} {c : Nat} {l : List Int} {g off : Nat} (h : Rd w A c l) (e : A = some ⟨g, off, none⟩) : ∀ j u, (bv l)[j]? = some u → w.cell? ((⟨g, off, none⟩ : Addr).add j) = some u := by
  intro j u hu
  unfold bv at hu
  rw [List.getElem?_map] at hu
  rcases Nat.lt_or_ge j l.length with hj | hj
  · obtain ⟨g', off', e', _, hc⟩ := h.at_ (by omega)
    rw [e] at e'
    injection e' with e'
    injection e' with e1 e2
    subst e1 e2
    rw [add_plain', hc j hj]
    rw [List.getElem?_eq_getElem hj] at hu
    simp at hu
    rw [← hu]
    unfold at0
    rw [List.getD_eq_getElem?_getD, List.getElem?_eq_getElem hj]
    rfl
  · rw [List.getElem?_eq_none hj] at hu
    simp at hu

end Go.Proofs.Ytpigdjlanabacaa
