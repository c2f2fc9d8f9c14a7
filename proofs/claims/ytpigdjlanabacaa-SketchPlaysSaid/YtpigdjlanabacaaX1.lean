/-
  What Good, Put, PutRoute and Get of the document's answer for layer 4 return. Condition: the bytes lie where the argument says.
-/
import Derived.Test.YtpigdjlanabacaaVf
import Derived.Lib.AppendZerosOnto
import Derived.LoopN
import Derived.Test.YtpigdjlanabacaaRefC
import Derived.Laws.OwnMore
import Derived.Test.YtpigdjlanabacaaLawN
import Derived.Test.YtpigdjlanabacaaLawE
import Derived.Test.YtpigdjlanabacaaPg
import Derived.Test.YtpigdjlanabacaaMathP
import Derived.Test.YtpigdjlanabacaaPbx
namespace Go.Proofs.Ytpigdjlanabacaa
open Go.RowKit

theorem grow_run (W : World) (k : Nat) (ty : TypeId) (h0 : 0 < k) (h1 : k ≤ 1000000) :
    ∃ cap W', (Builtin.append_ #[55, 3] ty #[.slice none 0 0, .int .i64 (k : Int)]).run Try.prog W = .ok (.slice (some ⟨W.heap.size, 0, none⟩) k cap) W' ∧
      W'.ownsRow W.heap.size 5 1 (.slice (some ⟨W.heap.size, 0, none⟩) 0 cap) 0 (bv []) ∧ Below W.heap.size W W' := by
  obtain ⟨i0, hi0, hz0, hz1, hz2⟩ := info_parts info_u8
  have hnx : Builtin.nextslicecap (0 + k) 0 ≤ 281474976710656 := by
    unfold Builtin.nextslicecap
    split
    · omega
    · split <;> omega
  have hr := Lib.run_append_grow_zeros (P := Try.prog) W 55 3 ty 5 i0 (.int .u8 0) .i64 .i64 Try.underlying55 Try.underlying3 hi0 hz0 none 0 0 [] (run_firstCells_none W.drew _ _ _ _) k h0 (by omega) (by omega) (by omega) (by rw [hz2]; omega) (by rw [hz2]; omega)
  have hge := grownCap_ge W (0 + k) 0 5
  have hle := grownCap_le_maxLen W (0 + k) 0 5 (by simp only [maxLen]; omega)
  rw [Nat.zero_add] at hr hge hle
  refine ⟨_, _, hr, ?_, ?_⟩
  · refine World.ownsRow_made W.drew _ _ (Nat.le_refl _) hle ?_
    simp [size_zeroCells, Value.cells]
    omega
  · exact ((Below.refl _ W).drew).alloc (Nat.le_refl _) _

theorem wpList_grow {ops : Array Oper} {o : Oper} {a : Act} {w : World} {Q : Exit → Act → World → Prop} {rest : List Oper} (hgd : o.guard = none) (s x : Operand) (ho : o.op = .call { callee := .builtin .append, args := #[s, x], argTypes := #[55, 3] }) (k : Nat) (h0 : 0 < k) (h1 : k ≤ 1000000) (hs : a.eval s = .slice none 0 0) (hx : a.eval x = .int .i64 (k : Int))
    (h : ∀ cap w', w'.ownsRow w.heap.size 5 1 (.slice (some ⟨w.heap.size, 0, none⟩) 0 cap) 0 (bv []) → Below w.heap.size w w' → wpList Try.prog ops Q rest (a.put o.dst (.slice (some ⟨w.heap.size, 0, none⟩) k cap)) w') : wpList Try.prog ops Q (o :: rest) a w :=
  wpList_plain hgd fun _ hK => by
    obtain ⟨cap, W', hr, ho2, hb⟩ := grow_run w k o.type h0 h1
    unfold Oper.wp execOp
    simp only [ho, resolve, invoke, builtin, Sem.run_bind, Sem.run_pure, Result.andThen_ok, List.map_toArray, List.map_cons, List.map_nil, hs, hx, hr]
    exact hK _ _ (h cap W' ho2 hb)

set_option maxHeartbeats 1000000 in
theorem grow_any (n : Int) (h0 : 0 ≤ n) (h1 : n ≤ 1000000) (w : World) : Calls Try.prog 37 #[.slice none 0 0, .int .i64 n] w (RowPost w []) := by
  obtain ⟨k, rfl⟩ := Int.eq_ofNat_of_zero_le h0
  by_cases hk : k = 0
  · subst hk
    go_enter Try.func37, Try.ntmps37
    go_wp2
    go_ret
    exact ⟨_, rfl, World.ownsRow_nil _ _ _ _, Below.refl _ _⟩
  · have t1 : decide ((k : Int) < 0) = false := by simp
    have t2 : decide (0 < (k : Int)) = true := by simp; omega
    have t3 : decide (0 < k) = true := by simp; omega
    have hk0 : 0 < k := by omega
    have hk1 : k ≤ 1000000 := by omega
    clear hk
    go_enter Try.func37, Try.ntmps37
    go_wp2_with (
      at_builtin
      refine wpList_grow rfl (.tmp 20) (.tmp 21) rfl k hk0 hk1 (by rfl) (by rfl) ?_
      intro cap w1 ho hb
      have Ho := Lib.hid ho
      clear ho
      )
    go_ret
    exact ⟨_, rfl, Ho.out, hb⟩

/-- Two lists of bytes in a list. -/
def Pair2 (w : World) (g : Nat) (v1 v2 : Value) : Prop := w.cell? ⟨g, 0, none⟩ = some v1 ∧ w.cell? ⟨g, 1, none⟩ = some v2 ∧ g < w.heap.size

set_option maxHeartbeats 2000000 in
theorem concat_any (g : Nat) (A B : Option Addr) (c d : Nat) (l m : List Int) (w : World) (h : w.cell? ⟨g, 0, none⟩ = some (.slice A l.length c)) (h' : w.cell? ⟨g, 1, none⟩ = some (.slice B m.length d)) (hg : g < w.heap.size) (hl : Rd w A c l) (hm : Rd w B d m) (hb : l.length + m.length ≤ 500000) :
    Calls Try.prog 32 #[.slice (some ⟨g, 0, none⟩) 2 2] w (RowPost w (l ++ m)) := by
  have t1 : decide ((l.length : Int) < 0) = false := by simp
  have t2 : decide ((l.length : Int) + (m.length : Int) < 0) = false := by simp; omega
  have b1 : (0 : Int) ≤ (l.length : Int) := by omega
  have b2 : (0 : Int) ≤ (m.length : Int) := by omega
  have b3 : (l.length : Int) + (m.length : Int) ≤ 500000 := by omega
  have HL := Lib.hid hl
  have HM := Lib.hid hm
  clear hl hm
  go_enter Try.func32, Try.ntmps32
  go_wp2_with fail
  refine wp_loop_rounds 3 ?_
  rw [rounds_succ]
  go_wp2_with fail
  rw [rounds_succ]
  go_wp2_with fail
  rw [rounds_succ]
  go_wp2_with fail
  refine (grow_any ((l.length : Int) + (m.length : Int)) (by omega) (by omega) _).mono ?_
  rintro e w1 ⟨v1, rfl, ho1, hb1⟩
  have k0 := (hb1.cell (p := ⟨g, 0, none⟩) hg).trans h
  have k1 := (hb1.cell (p := ⟨g, 1, none⟩) hg).trans h'
  have H1 := Lib.hid ho1
  have z1 := hb1.size
  have hg1 : g < w1.heap.size := by omega
  clear ho1 h h'
  go_wp2_with fail
  refine wp_loop_rounds 3 ?_
  rw [rounds_succ]
  go_wp2_with (
    at_builtin
    refine wpList_bytes rfl (.tmp 31) (.tmp 32) rfl w.heap.size _ 0 [] (by rfl) H1.out _ _ c l (by rfl) rfl (HL.out.keep hb1) (by omega) z1 ?_
    intro v2 w2 ho2 hb2
    have H2 := Lib.hid ho2
    have k2 := (hb2.cell (p := ⟨g, 1, none⟩) hg).trans k1
    have z2 := Nat.le_trans z1 hb2.size
    clear ho2 k0 k1
    )
  rw [rounds_succ]
  go_wp2_with (
    at_builtin
    refine wpList_bytes rfl (.tmp 31) (.tmp 32) rfl w.heap.size _ _ _ (by rfl) H2.out _ _ d m (by rfl) rfl (HM.out.keep (hb1.trans hb2)) (by simp; omega) z2 ?_
    intro v3 w3 ho3 hb3
    have H3 := Lib.hid ho3
    clear ho3
    )
  rw [rounds_succ]
  go_wp2
  go_ret
  exact ⟨_, rfl, own_fit (by simpa using H3.out), (hb1.trans hb2).trans hb3⟩

end Go.Proofs.Ytpigdjlanabacaa

namespace Go.Proofs.Ytpigdjlanabacaa
open Go.RowKit
set_option maxRecDepth 100000

set_option maxHeartbeats 1000000 in
theorem put_any (A : Option Addr) (c : Nat) (l : List Int) (p : Pf) (w : World) (h : Rd w A c l) (hb : l.length ≤ 400000) : Calls Try.prog 26 #[.slice A l.length c, .agg #[.int .u64 (u p.a.hi), .int .u64 (u p.a.lo), .bool p.a.v6, .int .i64 p.n]] w (RowPost w (l ++ putP p)) := by
  have hp := putP_le p
  have HR := Lib.hid h
  clear h
  go_enter Try.func26, Try.ntmps26
  go_wp2_with fail
  refine (prefixBytes_any p _).mono ?_
  rintro e w1 ⟨v1, rfl, ho1, hb1⟩
  obtain ⟨_, B, d, rfl, hm⟩ := own_rd ho1 (bd_putP p)
  have bw1 := below_of (w := w) (by go_grown) hb1
  have z1 := bw1.size
  have HM := Lib.hid hm
  clear ho1 hb1 hm
  go_wp2_with fail
  refine (concat_any w1.heap.size A B c d l (putP p) _ (by go_simp) (by go_simp) (by go_size) (HR.out.keep (by go_grown)) (HM.out.keep (by go_grown)) (by omega)).mono ?_
  rintro e w2 ⟨v2, rfl, ho2, hb2⟩
  have bw2 := below_of (w := w) (by go_grown) hb2
  have H2 := Lib.hid (own_base (base' := w.heap.size) ho2 (by simp; omega))
  clear ho2 hb2
  go_wp2
  go_ret
  exact ⟨_, rfl, H2.out, bw2⟩
/-- Routes as cells. -/
def rt5 (r : Rt) : List Value := [.int .u64 (u r.p.a.hi), .int .u64 (u r.p.a.lo), .bool r.p.a.v6, .int .i64 r.p.n, .int .i64 r.hop]
def rtv (l : List Rt) : List Value := l.flatMap rt5
theorem rtv_append (a b : List Rt) : rtv (a ++ b) = rtv a ++ rtv b := List.flatMap_append
theorem rtv_one (a : Rt) : rtv [a] = rt5 a := by simp [rtv]
theorem rtv_len (l : List Rt) : (rtv l).length = l.length * 5 := by
  induction l with
  | nil => rfl
  | cons r l ih =>
    rw [show r :: l = [r] ++ l from rfl, rtv_append, List.length_append, ih, rtv_one, List.length_append]
    simp [rt5]
    omega
theorem rt5_cell (r : Rt) : ∀ u ∈ rt5 r, u.oneCell' = true := by
  intro u hu
  simp [rt5] at hu
  rcases hu with rfl | rfl | rfl | rfl | rfl <;> rfl
theorem info_rt : (Try.prog.info? 69).map (fun i => (i.zero, i.size, i.bytes)) = some (some (.agg #[.int .u64 0, .int .u64 0, .bool false, .int .i64 0, .int .i64 0]), 5, 40) := by kernel_rfl

theorem grN_bd {l : List Int} (hb : ∀ x ∈ l, 0 ≤ x ∧ x < 256) (he : grE l = 0) : grN l ≤ l.length ∧ grN l ≤ 20 ∧ 4 ≤ grN l := by
  have hg : getE l = 0 := by
    by_cases hg : getE l = 0
    · exact hg
    · unfold grE at he
      rw [if_neg hg] at he
      exact absurd he hg
  obtain ⟨h1, h2, h3⟩ := getN_le hb hg
  have hh : hopE (l.drop (getN l)) = 0 := by
    unfold grE at he
    rw [if_pos hg] at he
    exact he
  have h4 : 2 ≤ (l.drop (getN l)).length := by
    unfold hopE at hh
    split at hh
    · cases hh
    · omega
  rw [List.length_drop] at h4
  unfold grN
  rw [if_pos he]
  omega
/-- More rounds than there are bytes change nothing. -/
theorem galF_more (l : List Int) (hb : ∀ x ∈ l, 0 ≤ x ∧ x < 256) : ∀ f, l.length ≤ f → galF f l = galF l.length l := by
  have key : ∀ (n f g : Nat) (l : List Int), (∀ x ∈ l, 0 ≤ x ∧ x < 256) → l.length ≤ n → l.length ≤ f → l.length ≤ g → galF f l = galF g l := by
    intro n
    induction n with
    | zero =>
      intro f g l hb hn hf hg
      have h0 : l.length = 0 := by omega
      cases f <;> cases g <;> simp [galF, h0]
    | succ n ih =>
      intro f g l hb hn hf hg
      by_cases h0 : l.length = 0
      · cases f <;> cases g <;> simp [galF, h0]
      · obtain ⟨f', rfl⟩ : ∃ f', f = f' + 1 := ⟨f - 1, by omega⟩
        obtain ⟨g', rfl⟩ : ∃ g', g = g' + 1 := ⟨g - 1, by omega⟩
        by_cases he : grE l = 0
        · obtain ⟨h1, h2, h3⟩ := grN_bd hb he
          have hd : (l.drop (grN l)).length = l.length - grN l := List.length_drop
          have e := ih f' g' (l.drop (grN l)) (bd_drop hb _) (by omega) (by omega) (by omega)
          simp only [galF, if_neg h0, if_pos he, e]
        · simp only [galF, if_neg h0, if_neg he]
  exact fun f hf => key l.length f l.length l hb (Nat.le_refl _) hf (Nat.le_refl _)
theorem gal_err {l : List Int} (h : ¬ galE l = 0) : galR l = [] := by
  have key : ∀ (f : Nat) (l : List Int), (galF f l).2 ≠ 0 → (galF f l).1 = [] := by
    intro f l h
    cases f with
    | zero => rfl
    | succ f =>
      unfold galF at h ⊢
      split
      · rfl
      · split
        · split
          · rename_i h0 h1 h2
            rw [if_neg h0, if_pos h1, if_pos h2] at h
            exact absurd rfl h
          · rfl
        · rfl
  exact key _ _ h
theorem gal_nil : galR [] = [] ∧ galE [] = 0 := ⟨rfl, rfl⟩
theorem gal_bad {l : List Int} (h0 : 0 < l.length) (he : grE l ≠ 0) : galR l = [] ∧ galE l = grE l := by
  obtain ⟨f, hf⟩ : ∃ f, l.length = f + 1 := ⟨l.length - 1, by omega⟩
  have hne : ¬ (l.length = 0) := by omega
  unfold galR galE
  rw [show galF l.length l = ([], grE l) from by conv => lhs; rw [hf]; simp only [galF, if_neg hne, if_neg he]]
  exact ⟨rfl, rfl⟩
theorem gal_go {l : List Int} (hb : ∀ x ∈ l, 0 ≤ x ∧ x < 256) (h0 : 0 < l.length) (he : grE l = 0) :
    galE l = galE (l.drop (grN l)) ∧ galR l = if galE (l.drop (grN l)) = 0 then grR l :: galR (l.drop (grN l)) else [] := by
  obtain ⟨f, hf⟩ : ∃ f, l.length = f + 1 := ⟨l.length - 1, by omega⟩
  have hne : ¬ (l.length = 0) := by omega
  obtain ⟨h1, h2, h3⟩ := grN_bd hb he
  have hd : (l.drop (grN l)).length = l.length - grN l := List.length_drop
  have e := galF_more (l.drop (grN l)) (bd_drop hb _) f (by omega)
  unfold galR galE
  have e2 : galF l.length l = if (galF (l.drop (grN l)).length (l.drop (grN l))).2 = 0 then (grR l :: (galF (l.drop (grN l)).length (l.drop (grN l))).1, 0) else ([], (galF (l.drop (grN l)).length (l.drop (grN l))).2) := by
    conv => lhs; rw [hf]
    simp only [galF, if_neg hne, if_pos he, e]
  rw [e2]
  split
  · rename_i hz
    exact ⟨hz.symm, rfl⟩
  · exact ⟨rfl, rfl⟩

/-- What is left to read, and what was read. -/
def EndRel (w : World) (l : List Int) (s v : Value) (wr : World) : Prop :=
  ∃ (rs : List Rt) (l' : List Int) (A : Option Addr) (c : Nat), s = .slice A l'.length c ∧ Rd w A c l' ∧ wr.ownsRow w.heap.size 69 5 v rs.length (rtv rs) ∧ Below w.heap.size w wr ∧ rs.length + l'.length ≤ l.length ∧
    galE l = galE l' ∧ galR l = if galE l' = 0 then rs ++ galR l' else []
def sLen : Value → Nat
  | .slice _ n _ => n
  | _ => 0
@[simp] theorem sLen_slice (A : Option Addr) (n c : Nat) : sLen (.slice A n c) = n := rfl
/-- A list of routes and an error. -/
def AllPost (w : World) (l : List Int) (e : Ending) (w' : World) : Prop := ∃ v, e = .returned (.tuple #[v, .int .i64 (galE l)]) ∧ w'.ownsRow w.heap.size 69 5 v (galR l).length (rtv (galR l)) ∧ Below w.heap.size w w'

/-- Routes that lie in memory, as a slice says. -/
def RdR (w : World) (A : Option Addr) (rs : List Rt) : Prop :=
  rs ≠ [] → ∃ g off, A = some ⟨g, off, none⟩ ∧ g < w.heap.size ∧ ∀ i, (h : i < rs.length) → w.cell? ⟨g, off + i * 5, none⟩ = some (.int .u64 (u rs[i].p.a.hi)) ∧ w.cell? ⟨g, off + i * 5 + 1, none⟩ = some (.int .u64 (u rs[i].p.a.lo)) ∧ w.cell? ⟨g, off + i * 5 + 2, none⟩ = some (.bool rs[i].p.a.v6) ∧ w.cell? ⟨g, off + i * 5 + 3, none⟩ = some (.int .i64 rs[i].p.n) ∧ w.cell? ⟨g, off + i * 5 + 4, none⟩ = some (.int .i64 rs[i].hop)
theorem RdR.keep {w w' : World} {A : Option Addr} {rs : List Rt} (h : RdR w A rs) (hb : Below w.heap.size w w') : RdR w' A rs := fun hn => by
  obtain ⟨g, off, e, hg, hc⟩ := h hn
  exact ⟨g, off, e, Nat.lt_of_lt_of_le hg hb.size, fun i hi => ⟨(hb.cell (p := ⟨g, off + i * 5, none⟩) hg).trans (hc i hi).1, (hb.cell (p := ⟨g, off + i * 5 + 1, none⟩) hg).trans (hc i hi).2.1, (hb.cell (p := ⟨g, off + i * 5 + 2, none⟩) hg).trans (hc i hi).2.2.1, (hb.cell (p := ⟨g, off + i * 5 + 3, none⟩) hg).trans (hc i hi).2.2.2.1, (hb.cell (p := ⟨g, off + i * 5 + 4, none⟩) hg).trans (hc i hi).2.2.2.2⟩⟩
theorem rtv_at (rs : List Rt) (i : Nat) (h : i < rs.length) (j : Nat) (hj : j < 5) : (rtv rs)[i * 5 + j]? = (rt5 rs[i])[j]? := by
  have e : rs = rs.take i ++ ([rs[i]] ++ rs.drop (i + 1)) := by simp
  conv => lhs; rw [e, rtv_append, rtv_append, rtv_one]
  have hl : (rtv (rs.take i)).length = i * 5 := by rw [rtv_len, List.length_take]; omega
  rw [List.getElem?_append_right (by omega), hl, show i * 5 + j - i * 5 = j by omega, List.getElem?_append_left (by simp [rt5]; omega)]
theorem own_rdr {w : World} {base : Nat} {v : Value} {n : Nat} {rs : List Rt} (h : w.ownsRow base 69 5 v n (rtv rs)) : n = rs.length ∧ ∃ A c, v = .slice A n c ∧ n ≤ c ∧ RdR w A rs := by
  have hl : n = rs.length := by have := h.1; rw [rtv_len] at this; omega
  refine ⟨hl, ?_⟩
  rcases h.2 with ⟨rfl, hn⟩ | ⟨g, cap, cur, rfl, _, hg, hnc, hm, hs, ht⟩
  · subst hn
    have e : rs = [] := List.eq_nil_of_length_eq_zero hl.symm
    subst e
    exact ⟨none, 0, rfl, Nat.le_refl _, fun h => absurd rfl h⟩
  · refine ⟨_, cap, rfl, hnc, fun hne => ⟨g, 0, rfl, (Array.getElem?_eq_some_iff.1 hg).1, fun i hi => ?_⟩⟩
    have key : ∀ j x, j < 5 → (rt5 rs[i])[j]? = some x → w.cell? ⟨g, i * 5 + j, none⟩ = some x := fun j x hj hx => by
      have := h.cells (g := g) rfl (i * 5 + j) x (by rw [rtv_at rs i hi j hj]; exact hx)
      rw [add_plain', Nat.zero_add] at this
      exact this
    rw [Nat.zero_add]
    exact ⟨key 0 _ (by omega) rfl, key 1 _ (by omega) rfl, key 2 _ (by omega) rfl, key 3 _ (by omega) rfl, key 4 _ (by omega) rfl⟩

end Go.Proofs.Ytpigdjlanabacaa

namespace Go.Proofs.Ytpigdjlanabacaa
open Go.RowKit

/-- A block's first n cells are these numbers, and may be written. -/
def Row (w : World) (g n : Nat) (f : Nat → Int) : Prop :=
  g < w.heap.size ∧ (∀ j, j < n → w.cell? ⟨g, j, none⟩ = some (.int .i64 (f j))) ∧ ∀ j, w.frozen? ⟨g, j, none⟩ = false
theorem Row.below {w w' : World} {B g n : Nat} {f : Nat → Int} (h : Row w g n f) (hb : Below B w w') (hg : g < B) : Row w' g n f :=
  ⟨Nat.lt_of_lt_of_le h.1 hb.size, fun j hj => (hb.cell (p := ⟨g, j, none⟩) hg).trans (h.2.1 j hj), fun j => (hb.frozen (p := ⟨g, j, none⟩) hg).trans (h.2.2 j)⟩

theorem refBit_eq (a : Ad) (i : Int) (h0 : 0 ≤ i) (h1 : i < wid a.v6) : rawv a i = bitv a i := by
  obtain ⟨k, rfl⟩ := Int.eq_ofNat_of_zero_le h0
  rw [wid_wd] at h1
  rw [rawv_D a k (by omega), bitv_D a k (by omega)]
theorem bitv_out (a : Ad) (i : Int) (h : ¬ (0 ≤ i ∧ i < wid a.v6)) : bitv a i = 0 := by
  unfold bitv
  have : inW a.v6 i = false := by
    unfold inW
    rw [← Bool.decide_and, decide_eq_false_iff_not]
    exact h
  rw [this]
  rfl

theorem own_below {w w' : World} {B base : Nat} {e : TypeId} {size n : Nat} {v : Value} {xs : List Value} (h : w.ownsRow base e size v n xs) (hb : Below B w w') (hB : w.heap.size ≤ B) : w'.ownsRow base e size v n xs := by
  refine ⟨h.1, ?_⟩
  rcases h.2 with h' | ⟨g, cap, cur, h1, h2, h3, h4⟩
  · exact .inl h'
  · refine .inr ⟨g, cap, cur, h1, h2, ?_, h4⟩
    rw [hb.block g (Nat.lt_of_lt_of_le (Array.getElem?_eq_some_iff.1 h3).1 hB)]
    exact h3

set_option maxHeartbeats 1000000 in
theorem refBit_any (a : Ad) (i : Int) (w : World) :
    Calls Try.prog 30 #[.agg #[.int .u64 (u a.hi), .int .u64 (u a.lo), .bool a.v6], .int .i64 i] w fun e w' => e = .returned (.int .i64 (bitv a i)) ∧ Below w.heap.size w w' := by
  have hw := wid_bd a.v6
  by_cases hi : i < 0
  · have t1 : decide (i < 0) = true := by simp [hi]
    have hb := Lib.hid (bitv_out a i (by omega))
    go_enter Try.func30, Try.ntmps30
    go_wp2
    go_ret
    exact ⟨ret_int hb.out.symm, by go_grown⟩
  · have t1 : decide (i < 0) = false := by simp [hi]
    by_cases hi2 : wid a.v6 ≤ i
    · have t2 : decide (wid a.v6 ≤ i) = true := by simp [hi2]
      have hb := Lib.hid (bitv_out a i (by omega))
      go_enter Try.func30, Try.ntmps30
      go_wp2_with fail
      refine (refWidth_any a.v6 _).mono ?_
      rintro e w2 ⟨rfl, rfl⟩
      go_wp2
      go_ret
      exact ⟨ret_int hb.out.symm, by go_grown⟩
    · have t2 : decide (wid a.v6 ≤ i) = false := by simp [hi2]
      have hb := Lib.hid (refBit_eq a i (by omega) (by omega))
      go_enter Try.func30, Try.ntmps30
      go_wp2_with fail
      refine (refWidth_any a.v6 _).mono ?_
      rintro e w2 ⟨rfl, rfl⟩
      go_wp2_with fail
      refine (raw_any a i (by omega) (by omega) _).mono ?_
      rintro e w3 ⟨rfl, h3⟩
      have b3 := below_of (w := w) (by go_grown) h3
      clear h3
      go_wp2
      go_ret
      exact ⟨ret_int hb.out, b3⟩

def rdig (a : Ad) (m : Nat) : List Value := (List.range m).map fun j : Nat => .int .i64 (rawv a (j : Int))
theorem rdig_succ (a : Ad) (m : Nat) : rdig a (m + 1) = rdig a m ++ [.int .i64 (rawv a m)] := by
  unfold rdig
  rw [List.range_succ, List.map_append]
  rfl
theorem rdig_at (a : Ad) (m j : Nat) (h : j < m) : (rdig a m)[j]? = some (.int .i64 (rawv a j)) := by
  unfold rdig
  simp [h]
theorem rawv_bd (a : Ad) (k : Nat) (h : k < 128) : 0 ≤ rawv a k ∧ rawv a k ≤ 1 := by
  rw [rawv_P a k h]
  split <;> omega

def DigPost (w : World) (a : Ad) (e : Ending) (w' : World) : Prop := ∃ g c : Nat, e = .returned (.slice (some ⟨g, 0, none⟩) (wd a.v6) c) ∧ w.heap.size ≤ g ∧ Row w' g (wd a.v6) (fun j => rawv a j) ∧ Below w.heap.size w w'
set_option maxHeartbeats 2000000 in
theorem refDigits_any (a : Ad) (w : World) :
    Calls Try.prog 40 #[.agg #[.int .u64 (u a.hi), .int .u64 (u a.lo), .bool a.v6]] w (DigPost w a) := by
  obtain ⟨i0, hi0, hz0, hz1, hz2⟩ := info_parts info_int
  have hw := wd_lb a.v6
  have Hwid := Lib.hid (wid_wd a.v6)
  go_enter Try.func40, Try.ntmps40
  go_wp2_with fail
  generalize hW1 : World.alloc _ _ = W1
  have hz1w : w.heap.size < W1.heap.size := by subst hW1; go_size
  have hB1 : Below w.heap.size w W1 := by subst hW1; go_grown
  obtain ⟨pa, pb, pc, pd, pe, pf, pz⟩ : Box W1 w.heap.size a := by
    subst hW1
    refine ⟨?_, ?_, ?_, ?_, ?_, ?_, ?_⟩ <;> first | (go_simp; done) | (go_simp <;> rfl) | go_size
  clear hW1
  go_loopw [3, 4] (fun l i wr => ∃ k : Nat, k ≤ wd a.v6 ∧ i = .int .i64 k ∧ wr.ownsRow W1.heap.size 3 1 l k (rdig a k) ∧ Below W1.heap.size W1 wr) (fun _ i _ => wd a.v6 - (intOf i).toNat)
  case atStart => exact ⟨0, by omega, rfl, ⟨by simp [rdig], .inl ⟨rfl, rfl⟩⟩, Below.refl _ _⟩
  case round =>
    obtain ⟨k, hk, rfl, hown, hB⟩ := hrel
    obtain ⟨qa, qb, qc, qd, qe, qf, qz⟩ := cells3 hB pz pa pb pc pd pe pf
    have Hown := Lib.hid hown
    have Hge := Lib.hid (own_ge hown)
    clear hown
    have hbase := hB.size
    by_cases hlt : k < wd a.v6
    · have hlt' : decide ((k : Int) < wid a.v6) = true := by rw [Hwid.out]; simp; omega
      go_wp2_with fail
      refine (refWidth_any a.v6 _).mono ?_
      rintro e w2 ⟨rfl, rfl⟩
      go_wp2_with fail
      refine (raw_any a k (by omega) (by omega) _).mono ?_
      rintro e w3 ⟨rfl, h3⟩
      have H3 := Lib.hid (own_below Hown.out h3 (Nat.le_refl _))
      have b3 := hB.trans (h3.mono hbase)
      have hz3 := b3.size
      clear h3 Hown
      go_wp2_with ((at_builtin
                    refine wpList_append_own _ rfl (.tmp 12) (.tmp 16) _ rfl W1.heap.size 3 i0 _ 1 8 Try.underlying56 hi0 hz0 hz1 hz2 rfl (by omega) _ k (rdig a k) rfl (H3.out.alloc _) ⟨w3.heap.size, 0, none⟩ 1 1 [.int .i64 (rawv a k)] rfl rfl (World.news_of_block (cs := #[.int .i64 (rawv a k)]) (t := 3) (fr := (0, 0)) (heap_alloc_new w3 _)) (by simp [Value.oneCell']) (by simp only [maxLen]; omega) (by omega) (by simp; omega) ?_
                    intro v1 w4 hown1 hg1 hat1
                    have H1 := Lib.hid hown1
                    have G1 := Lib.hid hg1
                    clear hown1 hg1 hat1))
      have bX : Below W1.heap.size W1 w4 := (b3.alloc hz3 _).grown G1.out (by simp; omega) Hge.out
      refine ⟨⟨k + 1, by omega, by go_num, ?_, bX⟩, ?_⟩
      · have e := H1.out
        rw [← rdig_succ] at e
        exact e
      · simp [intOf]; omega
    · obtain rfl : k = wd a.v6 := by omega
      have hlt' : decide ((wd a.v6 : Int) < wid a.v6) = false := by rw [Hwid.out]; simp
      obtain ⟨g, cap, hv, hgb, hgl⟩ := Hown.out.form (by omega)
      subst hv
      have hrow : Row wr g (wd a.v6) (fun j => rawv a j) := ⟨hgl, fun j hj => (Hown.out.cellAt j (by omega)).trans (rdig_at a _ j hj), fun j => Hown.out.frozenAt j⟩
      have HR := Lib.hid hrow
      clear hrow Hown Hge
      go_wp2_with fail
      refine (refWidth_any a.v6 _).mono ?_
      rintro e w2 ⟨rfl, rfl⟩
      go_wp2
      refine bodyPost_ret (v := .slice (some ⟨g, 0, none⟩) (wd a.v6) cap) (by simp [*, results, Try.results40, go_sem] <;> rfl) rfl ⟨g, cap, rfl, by omega, HR.out, ?_⟩
      exact hB1.trans (hB.mono (Nat.le_of_lt hz1w))

theorem sane_raw (a : Ad) : saneB a = true ↔ (a.v6 = true ∨ ∀ j : Nat, 32 ≤ j → j < 128 → rawv a j = 0) := by
  rw [sane_iff]
  have hw := wd_lb a.v6
  constructor
  · intro h
    cases hv : a.v6
    · refine .inr fun j h1 h2 => ?_
      rw [rawv_P a j h2, ← h, P_norm, D_low a _ (by rw [hv]; show 127 - j < 96; omega)]
      rfl
    · exact .inl rfl
  · rintro h
    have hP : ∀ j, j < 128 → P (norm a) j = P a j := by
      intro j hj
      rw [P_norm, D_P]
      rcases h with h | h
      · rw [h]; simp [lb]
      · by_cases hl : lb a.v6 ≤ j
        · simp [hl]
        · have := h (127 - j) (by omega) (by omega)
          rw [rawv_P a _ (by omega), show 127 - (127 - j) = j from by omega] at this
          cases hp : P a j
          · simp
          · rw [hp] at this; simp at this
    have e1 : (norm a).hi = a.hi := by
      apply BitVec.eq_of_getLsbD_eq
      intro m hm
      have := hP (m + 64) (by omega)
      unfold P at this
      rw [if_neg (by omega), if_neg (by omega), Nat.add_sub_cancel] at this
      exact this
    have e2 : (norm a).lo = a.lo := by
      apply BitVec.eq_of_getLsbD_eq
      intro m hm
      have := hP m (by omega)
      unfold P at this
      rw [if_pos hm, if_pos hm] at this
      exact this
    show Ad.mk (norm a).hi (norm a).lo a.v6 = _
    rw [e1, e2]

set_option maxHeartbeats 2000000 in
theorem refSane_any (a : Ad) (w : World) :
    Calls Try.prog 28 #[.agg #[.int .u64 (u a.hi), .int .u64 (u a.lo), .bool a.v6]] w fun e w' => e = .returned (.bool (saneB a)) ∧ Below w.heap.size w w' := by
  by_cases hv : a.v6 = false
  · have HS := Lib.hid (sane_raw a)
    have HV := Lib.hid hv
    have tn : (!a.v6) = true := by rw [hv]; rfl
    clear hv
    go_enter Try.func28, Try.ntmps28
    go_wp2_with fail
    go_loopw [3] (fun i wr => ∃ k : Nat, 32 ≤ k ∧ k ≤ 128 ∧ i = .int .i64 k ∧ Hid (∀ j : Nat, 32 ≤ j → j < k → rawv a j = 0) ∧ Box wr w.heap.size a ∧ Below w.heap.size w wr) (fun i _ => 128 - (intOf i).toNat)
    case atStart =>
      refine ⟨32, by omega, by omega, rfl, fun j h1 h2 => absurd h1 (by omega), ?_, ?_⟩
      · refine ⟨?_, ?_, ?_, ?_, ?_, ?_, ?_⟩ <;> first | (go_simp; done) | (go_simp <;> rfl) | go_size
      · go_grown
    case round =>
      obtain ⟨k, hk0, hk, rfl, hall, ⟨pa, pb, pc, pd, pe, pf, pz⟩, hB⟩ := hrel
      by_cases hlt : k < 128
      · have hlt' : decide ((k : Int) < 128) = true := by simp; omega
        have hlt2 : (k : Int) < 128 := by omega
        by_cases h0 : rawv a k = 0
        · have t0 : (rawv a k == 0) = true := by simp [h0]
          have t1 : (rawv a k != 0) = false := by simp [h0]
          have H0 := Lib.hid h0
          clear h0
          go_wp2_with fail
          refine (raw_any a k (by omega) (by omega) _).mono ?_
          rintro e w3 ⟨rfl, h3⟩
          have b3 := hB.trans (h3.mono hB.size)
          obtain ⟨qa, qb, qc, qd, qe, qf, qz⟩ := cells3 h3 pz pa pb pc pd pe pf
          clear h3
          go_wp2_with fail
          refine ⟨⟨k + 1, by omega, by omega, by go_num, ?_, ⟨qa, qb, qc, qd, qe, qf, qz⟩, b3⟩, by simp [intOf]; omega⟩
          intro j h1 h2
          by_cases e : j = k
          · rw [e]; exact H0.out
          · exact hall.out j h1 (by omega)
        · have t0 : (rawv a k == 0) = false := by simp [h0]
          have t1 : (rawv a k != 0) = true := by simp [h0]
          have hs : Hid (saneB a = false) := by
            refine Lib.hid ?_
            rw [← Bool.not_eq_true, HS.out]
            rintro (h | h)
            · rw [HV.out] at h; cases h
            · exact h0 (h k hk0 hlt)
          clear h0
          go_wp2_with fail
          refine (raw_any a k (by omega) (by omega) _).mono ?_
          rintro e w3 ⟨rfl, h3⟩
          have b3 := hB.trans (h3.mono hB.size)
          clear h3
          go_wp2
          go_ret
          exact ⟨ret_bool hs.out.symm, b3⟩
      · obtain rfl : k = 128 := by omega
        have hs : Hid (saneB a = true) := Lib.hid (HS.out.2 (.inr hall.out))
        go_wp2
        go_ret
        exact ⟨ret_bool hs.out.symm, hB⟩
  · have tn : (!a.v6) = false := by simpa using hv
    have hs := Lib.hid ((sane_raw a).2 (.inl (by simpa using hv)))
    clear hv
    go_enter Try.func28, Try.ntmps28
    go_wp2_with fail
    refine wp_loop_rounds 1 ?_
    rw [rounds_succ]
    go_wp2
    go_ret
    exact ⟨ret_bool hs.out.symm, by go_grown⟩

end Go.Proofs.Ytpigdjlanabacaa

namespace Go.Proofs.Ytpigdjlanabacaa
open Go.RowKit

/-- An address out of its own digits. -/
theorem of_eq (x : Ad) (dl : Nat → Int) (hx : norm x = x) (hd : ∀ k, k < wd x.v6 → dl k = if D x (127 - k) then 1 else 0) : ofv dl x.v6 = x := by
  have hw := wd_lb x.v6
  have hb : ∀ j, j < wd x.v6 → 0 ≤ dl j ∧ dl j ≤ 1 := by
    intro j hj
    rw [hd j hj]
    split <;> omega
  rw [← of_norm dl x.v6 hb, ← hx]
  show norm (ofv dl x.v6) = _
  rw [← hx]
  have e : norm (ofv dl x.v6) = norm x := by
    refine norm_ext rfl fun j => ?_
    by_cases hj : j < 128
    · rw [D_P, P_of dl _ hb j hj]
      show (_ && decide (lb x.v6 ≤ j)) = _
      by_cases hl : lb x.v6 ≤ j
      · have h1 : 127 - j < wd x.v6 := by omega
        rw [hd _ h1, show 127 - (127 - j) = j from by omega]
        cases D x j <;> simp [hl, h1]
      · rw [D_low x j (by omega)]
        simp [hl]
    · rw [D_ge _ j (by omega), D_ge _ j (by omega)]
  simpa [hx] using e

theorem next_digits (a : Ad) (h : (nextv a).2 = true) : ∃ k, k < wd a.v6 ∧ D a (127 - k) = false ∧ D (nextv a).1 (127 - k) = true ∧ (∀ j, j < 127 - k → D a j = decide (lb a.v6 ≤ j) ∧ D (nextv a).1 j = false) ∧ ∀ j, 127 - k < j → D a j = D (nextv a).1 j := by
  obtain ⟨h1, h2, _, h4⟩ := next_spec a
  have hV := h4 h
  have hw := wd_lb a.v6
  have hd := lb_dvd a
  obtain ⟨k, hk, hle, hall, hne⟩ := common_spec a (nextv a).1 h1.symm
  have hklt : k < wd a.v6 := by
    rcases Nat.lt_or_ge k (wd a.v6) with hlt | hge
    · exact hlt
    · exfalso
      have e : V a = V (nextv a).1 := by
        apply Nat.eq_of_testBit_eq
        intro j
        by_cases hj : lb a.v6 ≤ j
        · exact hall j (by omega)
        · exact (D_low a j (by omega)).trans (D_low (nextv a).1 j (by rw [h1]; omega)).symm
      have : 0 < 2 ^ lb a.v6 := Nat.two_pow_pos _
      omega
  obtain ⟨b1, b2, b3⟩ := step_bits (V a) (lb a.v6) (127 - k) (by omega) hd (fun j hj => by
    have := hall j (by omega)
    unfold D at this
    rw [hV] at this
    exact this) (by
    have := hne hklt
    unfold D at this
    rw [hV] at this
    exact this)
  have c2 : D (nextv a).1 (127 - k) = true := by unfold D; rw [hV]; exact b2
  refine ⟨k, hklt, b1, c2, fun j hj => ⟨(b3 j hj).1, ?_⟩, fun j hj => hall j (by omega)⟩
  unfold D
  rw [hV]
  exact (b3 j hj).2

/-- All digits ones: there is no next one. -/
theorem next_stops (a : Ad) (h : ∀ j : Nat, j < wd a.v6 → rawv a j = 1) : nextv a = (norm a, false) := by
  have e : (nextv a).2 = false := by
    cases hn : (nextv a).2
    · rfl
    · obtain ⟨k, hk, h0, _⟩ := next_digits a hn
      have := h k hk
      rw [rawv_D a k hk, h0] at this
      simp at this
  obtain ⟨_, _, h3, _⟩ := next_spec a
  rw [← (h3 e).2, ← e]
/-- The last nought becomes one, the ones behind it noughts. -/
theorem next_goes (a : Ad) (x : Nat) (hx : x < wd a.v6) (h0 : rawv a x ≠ 1) (h : ∀ j : Nat, x < j → j < wd a.v6 → rawv a j = 1) :
    (nextv a).2 = true ∧ ofv (fun j => if j = x then 1 else if x < j then 0 else rawv a j) a.v6 = (nextv a).1 := by
  have hw := wd_lb a.v6
  have hx0 : D a (127 - x) = false := by
    rw [rawv_D a x hx] at h0
    cases hd : D a (127 - x)
    · rfl
    · rw [hd] at h0; simp at h0
  have hn : (nextv a).2 = true := by
    cases hn : (nextv a).2
    · exfalso
      obtain ⟨_, _, h3, _⟩ := next_spec a
      have e := (h3 hn).1
      have : D a (127 - x) = true := by
        unfold D
        rw [e]
        unfold top
        rw [ones_bit _ _ _ (by omega)]
        simp; omega
      rw [hx0] at this
      cases this
    · rfl
  refine ⟨hn, ?_⟩
  obtain ⟨h1, h2, _, _⟩ := next_spec a
  obtain ⟨k, hk, c1, c2, c3, c4⟩ := next_digits a hn
  obtain rfl : x = k := by
    rcases Nat.lt_trichotomy x k with hlt | he | hgt
    · have := h k hlt hk
      rw [rawv_D a k hk, c1] at this
      simp at this
    · exact he
    · have := (c3 (127 - x) (by omega)).1
      rw [hx0] at this
      have hl : lb a.v6 ≤ 127 - x := by omega
      simp [hl] at this
  have := of_eq (nextv a).1 (fun j => if j = x then 1 else if x < j then 0 else rawv a j) h2 (fun j hj => ?_)
  · rw [h1] at this
    exact this
  · rw [h1] at hj
    show (if j = x then (1 : Int) else if x < j then 0 else rawv a j) = _
    by_cases e : j = x
    · subst e
      rw [if_pos rfl, c2]; rfl
    · rw [if_neg e]
      by_cases e2 : x < j
      · rw [if_pos e2, (c3 (127 - j) (by omega)).2]; rfl
      · rw [if_neg e2, rawv_D a j hj, c4 (127 - j) (by omega)]

theorem of_raw (a : Ad) : ofv (fun j => rawv a j) a.v6 = norm a :=
  of_eq (norm a) _ (norm_norm a) fun k hk => by rw [rawv_D a k hk, D_norm]
theorem of_set (a : Ad) (k : Nat) (v : Int) (hk : k < wd a.v6) : ofv (fun j => if j = k then bits .and .i64 v 1 else rawv a j) a.v6 = setv a k v := by
  have hw := wd_lb a.v6
  have hv : (setv a k v).v6 = a.v6 := by
    unfold setv
    split
    · split <;> rfl
    · rfl
  have := of_eq (setv a k v) (fun j => if j = k then bits .and .i64 v 1 else rawv a j) (set_norm a k v) (fun j hj => ?_)
  · rw [hv] at this
    exact this
  · rw [hv] at hj
    rw [D_set a k v hk]
    show (if j = k then bits .and .i64 v 1 else rawv a j) = _
    by_cases e : j = k
    · subst e
      rw [if_pos rfl, if_pos rfl, and1_odd]
    · rw [if_neg e, if_neg (show ¬ 127 - j = 127 - k by omega), rawv_D a j hj]
theorem set_out (a : Ad) (i v : Int) (h : ¬ (0 ≤ i ∧ i < wid a.v6)) : setv a i v = norm a := by
  unfold setv
  have : inW a.v6 i = false := by
    unfold inW
    rw [← Bool.decide_and, decide_eq_false_iff_not]
    exact h
  rw [this]
  exact norm_norm _
theorem of_mask (a : Ad) (n : Int) : ofv (fun j => if (max n 0).toNat ≤ j then 0 else rawv a j) a.v6 = maskv a n := by
  have hw := wd_lb a.v6
  refine of_eq (maskv a n) _ (mask_norm a n) fun j hj => ?_
  have hj' : j < wd a.v6 := hj
  rw [D_mask]
  unfold clamp
  rw [wid_wd]
  by_cases e : (max n 0).toNat ≤ j
  · have : ¬ 128 ≤ (((127 - j : Nat) : Int) + min (max n 0) (wd a.v6 : Int)) := by omega
    rw [if_pos e]
    simp [this]
  · have : 128 ≤ (((127 - j : Nat) : Int) + min (max n 0) (wd a.v6 : Int)) := by omega
    rw [if_neg e, rawv_D a j hj']
    simp [this]
theorem of_fill (a : Ad) (n : Int) : ofv (fun j => if (max n 0).toNat ≤ j then 1 else rawv a j) a.v6 = fillv a n := by
  have hw := wd_lb a.v6
  refine of_eq (fillv a n) _ (fill_norm a n) fun j hj => ?_
  have hj' : j < wd a.v6 := hj
  rw [D_fill]
  unfold clamp
  rw [wid_wd]
  have hl : lb a.v6 ≤ 127 - j := by omega
  by_cases e : (max n 0).toNat ≤ j
  · have : (((127 - j : Nat) : Int) + min (max n 0) (wd a.v6 : Int)) < 128 := by omega
    rw [if_pos e]
    simp [this, hl]
  · have : ¬ (((127 - j : Nat) : Int) + min (max n 0) (wd a.v6 : Int)) < 128 := by omega
    rw [if_neg e, rawv_D a j hj']
    simp [this]

end Go.Proofs.Ytpigdjlanabacaa

namespace Go.Proofs.Ytpigdjlanabacaa
open Go.RowKit

theorem Row.set {w : World} {g n : Nat} {f : Nat → Int} (h : Row w g n f) (k : Nat) (v : Int) (hk : k < n) : Row (w.setCell ⟨g, k, none⟩ (.int .i64 v)) g n (fun j => if j = k then v else f j) := by
  refine ⟨by simpa using h.1, fun j hj => ?_, fun j => by rw [World.frozen?_setCell]; exact h.2.2 j⟩
  by_cases e : j = k
  · subst e
    rw [World.cell?_setCell_same _ _ _ (h.2.1 j hj)]
    simp
  · rw [World.cell?_setCell_other _ _ _ _ (fun e' => e (by injection e' with _ e'; exact e'.symm)), h.2.1 j hj]
    simp [e]
theorem Row.congr {w : World} {g n : Nat} {f f' : Nat → Int} (h : Row w g n f) (he : ∀ j, j < n → f j = f' j) : Row w g n f' :=
  ⟨h.1, fun j hj => by rw [h.2.1 j hj, he j hj], h.2.2⟩
theorem raw_bd (a : Ad) (j : Nat) (h : j < wd a.v6) : 0 ≤ rawv a j ∧ rawv a j ≤ 1 := rawv_bd a j (by have := wd_lb a.v6; omega)

theorem Box.far {wr : World} {b g k : Nat} {x : Ad} {v : Value} (h : Box wr b x) (hne : g ≠ b) : Box (wr.setCell ⟨g, k, none⟩ v) b x := by
  obtain ⟨h1, h2, h3, h4, h5, h6, h7⟩ := h
  refine ⟨?_, ?_, ?_, ?_, ?_, ?_, ?_⟩
  · rw [World.cell?_setCell_far _ _ _ _ hne]; exact h1
  · rw [World.cell?_setCell_far _ _ _ _ hne]; exact h2
  · rw [World.cell?_setCell_far _ _ _ _ hne]; exact h3
  · rw [World.frozen?_setCell]; exact h4
  · rw [World.frozen?_setCell]; exact h5
  · rw [World.frozen?_setCell]; exact h6
  · simpa using h7
theorem Box.on {w w' : World} {b : Nat} {x : Ad} (h : Box w b x) (hb : Below w.heap.size w w') : Box w' b x := by
  obtain ⟨h1, h2, h3, h4, h5, h6, h7⟩ := h
  exact cells3 hb h7 h1 h2 h3 h4 h5 h6
/-- No address. -/
def nil : Ad := ⟨0#64, 0#64, false⟩

end Go.Proofs.Ytpigdjlanabacaa

namespace Go.Proofs.Ytpigdjlanabacaa
open Go.RowKit

theorem nb_wd (v : Bool) : wd v = 8 * nb v := by cases v <;> rfl
theorem byte_step (a : Ad) (j t : Nat) (hj : j < nb a.v6) (ht : t < 8) : byteAt a j / 2 ^ (8 - t) * 2 + rawv a ((8 * j + t : Nat) : Int) = byteAt a j / 2 ^ (7 - t) := by
  have hn := nb_le a.v6
  have hw := nb_wd a.v6
  obtain ⟨b0, b1⟩ := byteAt_bd a j
  have hb := byteAt_bit a j (by omega) (7 - t) (by omega)
  rw [rawv_D a _ (by omega), show 127 - (8 * j + t) = 120 - 8 * j + (7 - t) from by omega, ← hb]
  obtain ⟨n, hn'⟩ := Int.eq_ofNat_of_zero_le b0
  rw [hn', Int.toNat_natCast, Nat.testBit_eq_decide_div_mod_eq, show 8 - t = (7 - t) + 1 from by omega]
  have e1 : ((n : Int) / 2 ^ (7 - t + 1)) = ((n / 2 ^ (7 - t) / 2 : Nat) : Int) := by
    rw [Nat.div_div_eq_div_mul, ← Nat.pow_succ]
    simp
  have e2 : ((n : Int) / 2 ^ (7 - t)) = ((n / 2 ^ (7 - t) : Nat) : Int) := by simp
  rw [e1, e2]
  generalize n / 2 ^ (7 - t) = m
  by_cases h : m % 2 = 1
  · simp [h]; omega
  · simp [h]; omega
/-- Byte j once m digits have been laid. -/
def bpart (a : Ad) (m j : Nat) : Int := byteAt a j / 2 ^ (8 - min (m - 8 * j) 8)
theorem bpart_bd (a : Ad) (m j : Nat) : 0 ≤ bpart a m j ∧ bpart a m j < 256 := by
  obtain ⟨b0, b1⟩ := byteAt_bd a j
  unfold bpart
  exact ⟨Int.ediv_nonneg b0 (Int.le_of_lt (Int.pow_pos (by decide))), Int.lt_of_le_of_lt (Int.ediv_le_self _ b0) b1⟩
theorem bpart_zero (a : Ad) (m j : Nat) (h : m ≤ 8 * j) : bpart a m j = 0 := by
  obtain ⟨b0, b1⟩ := byteAt_bd a j
  unfold bpart
  rw [show 8 - min (m - 8 * j) 8 = 8 from by omega]
  exact Int.ediv_eq_zero_of_lt b0 b1
theorem bpart_full (a : Ad) (m j : Nat) (h : 8 * j + 8 ≤ m) : bpart a m j = byteAt a j := by
  unfold bpart
  rw [show 8 - min (m - 8 * j) 8 = 0 from by omega]
  simp
theorem bpart_step (a : Ad) (m : Nat) (hm : m < wd a.v6) : bpart a m (m / 8) * 2 + rawv a (m : Int) = bpart a (m + 1) (m / 8) := by
  have hw := nb_wd a.v6
  have h := byte_step a (m / 8) (m % 8) (by omega) (by omega)
  rw [show 8 * (m / 8) + m % 8 = m from by omega] at h
  unfold bpart
  rw [show 8 - min (m - 8 * (m / 8)) 8 = 8 - m % 8 from by omega, show 8 - min (m + 1 - 8 * (m / 8)) 8 = 7 - m % 8 from by omega]
  exact h
theorem bpart_other (a : Ad) (m j : Nat) (h : j ≠ m / 8) : bpart a (m + 1) j = bpart a m j := by
  rcases Nat.lt_or_ge j (m / 8) with h1 | h1
  · rw [bpart_full a _ j (by omega), bpart_full a _ j (by omega)]
  · rw [bpart_zero a _ j (by omega), bpart_zero a _ j (by omega)]

set_option maxHeartbeats 2000000 in
theorem refBytes_full (a : Ad) (w : World) :
    Calls Try.prog 34 #[.agg #[.int .u64 (u a.hi), .int .u64 (u a.lo), .bool a.v6]] w (BytesPost w a) := by
  have hn := nb_le a.v6
  have hw := nb_wd a.v6
  have HW := Lib.hid hw
  have hwn : nb a.v6 ≤ wd a.v6 ∧ wd a.v6 ≤ 128 := by omega
  have hq : ((wd a.v6 : Nat) : Int) / 8 = (nb a.v6 : Int) := by omega
  have hmk := fun W : World => run_make_row' (P := Try.prog) 55 5 (.int .u8 0) 1 Try.underlying55 info_u8 rfl .i64 .i64 (nb a.v6) (by omega) (by omega) W
  clear hw
  go_enter Try.func34, Try.ntmps34
  go_wp2_with fail
  refine (refDigits_any a _).mono ?_
  rintro e w1 ⟨g, c, rfl, hg, hrow, hw1⟩
  have b1 := below_of (w := w) (by go_grown) hw1
  have hgw : w.heap.size + 1 ≤ g := by simpa using hg
  have hgl := hrow.1
  have HR := Lib.hid hrow
  clear hrow hw1 hg
  go_wp2_with fail
  clear hmk
  go_loopw [5] (fun i wr => ∃ m : Nat, m ≤ wd a.v6 ∧ i = .int .i64 m ∧ Hid (wr.rowIs w1.heap.size 5 (nb a.v6) (fun j => .int .u8 (bpart a m j))) ∧ Hid (Row wr g (wd a.v6) (fun j => rawv a j)) ∧ Below w.heap.size w wr) (fun i _ => wd a.v6 - (intOf i).toNat)
  case atStart =>
    refine ⟨0, Nat.zero_le _, rfl, Lib.hid ?_, Lib.hid (HR.out.below (Below.alloc (Below.refl _ _) (Nat.le_refl _) _) hgl), ?_⟩
    · exact (World.rowIs_made w1 (.int .u8 0) (nb a.v6) 5).congr fun j _ => by rw [bpart_zero a 0 j (by omega)]
    · go_grown
  case round =>
    obtain ⟨m, hm, rfl, hrow, hR, hB⟩ := hrel
    obtain ⟨W, rfl⟩ : ∃ W, W = wr := ⟨_, rfl⟩
    by_cases hlt : m < wd a.v6
    · have hlt' : (m : Int) < (wd a.v6 : Int) := by omega
      obtain ⟨q, hqm⟩ : ∃ q, q = m / 8 := ⟨_, rfl⟩
      have hQ : (m : Int) / 8 = (q : Int) := by omega
      have hqn : q < nb a.v6 := by have := HW.out; omega
      have ck := hrow.out.cell hqn
      have fk := hrow.out.frozen q
      have dk := hR.out.2.1 m hlt
      have hgt := hrow.out.lt
      have hgg := hR.out.1
      obtain ⟨c0, c1⟩ := bpart_bd a m q
      obtain ⟨d0, d1⟩ := raw_bd a m hlt
      obtain ⟨e0, e1⟩ := bpart_bd a (m + 1) q
      have hst : bpart a m q * 2 + rawv a (m : Int) = bpart a (m + 1) q := by subst hqm; exact bpart_step a m hlt
      have HS := Lib.hid hst
      have hlim : bpart a m q * 2 + rawv a (m : Int) < 256 := by omega
      have HQ := Lib.hid hqm
      clear hst hqm e0 e1
      have hz := hB.size
      have Lc := fun x : Later W.heap.size W => (x.cell (p := ⟨w1.heap.size, q, none⟩) hgt).trans ck
      have Ld := fun x : Later W.heap.size W => (x.cell (p := ⟨g, m, none⟩) hgg).trans dk
      go_wp2_with fail
      refine region_tail 15 W.heap.size (by kernel_rfl) (by kernel_rfl) ?_
      simp only [List.take_succ_cons, List.take_zero, List.drop_succ_cons, List.drop_zero]
      repeat (go_big_quiet_step (fail))
      refine wpQuiet_nil ?_
      intro x
      have hx : Below w.heap.size w x.at := hB.trans (x.below.mono hz)
      have Hr3 := Lib.hid (hrow.out.of_block (x.below.block _ hgt))
      have HR3 := Lib.hid (hR.out.below x.below hgg)
      have ck3 := (x.below.cell (p := ⟨w1.heap.size, q, none⟩) hgt).trans ck
      have fk3 := (x.below.frozen (p := ⟨w1.heap.size, q, none⟩) hgt).trans fk
      clear Lc Ld ck fk dk hrow hR hgt hgg
      generalize x.at = w3 at *
      clear x hB hz W
      go_wp2_with fail
      have hne : w1.heap.size ≠ g := by omega
      have hwz : w.heap.size ≤ w1.heap.size := by omega
      refine ⟨⟨m + 1, by omega, by go_num, Lib.hid ((Hr3.out.set q _).congr fun j hj => ?_), Lib.hid ⟨by simpa using HR3.out.1, fun j hj => ?_, fun j => ?_⟩, hx.setCell (by simp; omega) _⟩, by simp [intOf]; omega⟩
      · by_cases e : j = q
        · subst e
          rw [if_pos rfl]
          exact congrArg (Value.int IntKind.u8) HS.out
        · rw [if_neg e, bpart_other a m j (by rw [← HQ.out]; exact e)]
      · rw [World.cell?_setCell_far _ _ _ _ hne]
        exact HR3.out.2.1 j hj
      · rw [World.frozen?_setCell]
        exact HR3.out.2.2 j
    · obtain rfl : m = wd a.v6 := by omega
      have hlt' : ¬ ((wd a.v6 : Nat) : Int) < (wd a.v6 : Int) := by omega
      go_wp2
      go_ret
      exact ⟨w1.heap.size, rfl, b1.size, hrow.out.congr fun k hk => by rw [bpart_full a _ k (by have := HW.out; omega)], hB⟩
theorem refBytes_any (a : Ad) (w : World) :
    Calls Try.prog 34 #[.agg #[.int .u64 (u a.hi), .int .u64 (u a.lo), .bool a.v6]] w fun e w' => ∃ v, e = .returned v ∧ Held (nb a.v6) (byteAt a) v w' ∧ Below w.heap.size w w' := by
  refine (refBytes_full a w).mono ?_
  rintro e w' ⟨g, rfl, _, hrow, hb⟩
  exact ⟨_, rfl, ⟨g, nb a.v6, rfl, hrow.lt, fun k hk => by rw [Nat.zero_add, hrow.cell hk]⟩, hb⟩

end Go.Proofs.Ytpigdjlanabacaa

namespace Go.Proofs.Ytpigdjlanabacaa
open Go.RowKit

def orI (x y : Int) : Int := if x = 0 then y else x
end Go.Proofs.Ytpigdjlanabacaa

namespace Go.Proofs.Ytpigdjlanabacaa
open Go.RowKit

end Go.Proofs.Ytpigdjlanabacaa

namespace Go.Proofs.Ytpigdjlanabacaa
open Go.RowKit

set_option maxHeartbeats 1000000 in
theorem rpsane_any (p : Pf) (w : World) :
    Calls Try.prog 21 #[.agg #[.int .u64 (u p.a.hi), .int .u64 (u p.a.lo), .bool p.a.v6, .int .i64 p.n]] w fun e w' => e = .returned (.bool (psane p)) ∧ Below w.heap.size w w' := by
  have hw := wid_bd p.a.v6
  cases hs : saneB p.a
  · have hr := Lib.hid (psane_not p (by simp [hs]))
    have hs' : (!saneB p.a) = true := by simp [hs]
    clear hs
    go_enter Try.func21, Try.ntmps21
    go_wp2_with fail
    generalize hW : World.alloc _ _ = W
    have hz : w.heap.size ≤ W.heap.size := by subst hW; go_size
    have hB : Below w.heap.size w W := by subst hW; go_grown
    obtain ⟨pa, pb, pc, pg, pd, pe, pf, ph, pz⟩ := cells4 (W := W) (b := w.heap.size) (Below.refl _ W) (by subst hW; go_size) (by subst hW; go_simp <;> rfl) (by subst hW; go_simp <;> rfl) (by subst hW; go_simp <;> rfl) (by subst hW; go_simp <;> rfl) (by subst hW; go_simp <;> rfl) (by subst hW; go_simp <;> rfl) (by subst hW; go_simp <;> rfl) (by subst hW; go_simp <;> rfl)
    clear hW
    have Lpa := fun x : Later W.heap.size W => (x.cell pz).trans pa
    have Lpb := fun x : Later W.heap.size W => (x.cell pz).trans pb
    have Lpc := fun x : Later W.heap.size W => (x.cell pz).trans pc
    have Lpg := fun x : Later W.heap.size W => (x.cell pz).trans pg
    refine region_later W.heap.size (by kernel_rfl) (by kernel_rfl) ?_
    repeat (go_big_quiet_step (first | (go_at_call 28; exact later_of (Nat.le_refl _) (refSane_any p.a _)) | (go_at_call 29; exact later_same (refWidth_any _ _))))
    refine wpQuiet_nil ?_
    intro x
    have hx : Below w.heap.size w x.at := hB.trans (x.below.mono hz)
    clear Lpa Lpb Lpc Lpg
    obtain ⟨p'a, p'b, p'c, p'g, p'd, p'e, p'f, p'h, p'z⟩ := cells4 x.below pz pa pb pc pg pd pe pf ph
    clear pa pb pc pd pe pf pg ph pz
    generalize x.at = w1 at *
    clear x hB hz W
    go_wp2
    go_ret
    exact ⟨ret_bool hr.out.symm, hx⟩
  · have hs' : (!saneB p.a) = false := by simp [hs]
    by_cases h0 : p.n < 0
    · have hr := Lib.hid (psane_not p (by omega))
      have t0 : decide (p.n < 0) = true := by simp [h0]
      clear hs
      go_enter Try.func21, Try.ntmps21
      go_wp2_with fail
      generalize hW : World.alloc _ _ = W
      have hz : w.heap.size ≤ W.heap.size := by subst hW; go_size
      have hB : Below w.heap.size w W := by subst hW; go_grown
      obtain ⟨pa, pb, pc, pg, pd, pe, pf, ph, pz⟩ := cells4 (W := W) (b := w.heap.size) (Below.refl _ W) (by subst hW; go_size) (by subst hW; go_simp <;> rfl) (by subst hW; go_simp <;> rfl) (by subst hW; go_simp <;> rfl) (by subst hW; go_simp <;> rfl) (by subst hW; go_simp <;> rfl) (by subst hW; go_simp <;> rfl) (by subst hW; go_simp <;> rfl) (by subst hW; go_simp <;> rfl)
      clear hW
      have Lpa := fun x : Later W.heap.size W => (x.cell pz).trans pa
      have Lpb := fun x : Later W.heap.size W => (x.cell pz).trans pb
      have Lpc := fun x : Later W.heap.size W => (x.cell pz).trans pc
      have Lpg := fun x : Later W.heap.size W => (x.cell pz).trans pg
      refine region_later W.heap.size (by kernel_rfl) (by kernel_rfl) ?_
      repeat (go_big_quiet_step (first | (go_at_call 28; exact later_of (Nat.le_refl _) (refSane_any p.a _)) | (go_at_call 29; exact later_same (refWidth_any _ _))))
      refine wpQuiet_nil ?_
      intro x
      have hx : Below w.heap.size w x.at := hB.trans (x.below.mono hz)
      clear Lpa Lpb Lpc Lpg
      obtain ⟨p'a, p'b, p'c, p'g, p'd, p'e, p'f, p'h, p'z⟩ := cells4 x.below pz pa pb pc pg pd pe pf ph
      clear pa pb pc pd pe pf pg ph pz
      generalize x.at = w1 at *
      clear x hB hz W
      go_wp2
      go_ret
      exact ⟨ret_bool hr.out.symm, hx⟩
    · have t0 : decide (p.n < 0) = false := by simp [h0]
      by_cases h1 : wid p.a.v6 < p.n
      · have hr := Lib.hid (psane_not p (by omega))
        have t1 : decide (wid p.a.v6 < p.n) = true := by simp [h1]
        clear hs
        go_enter Try.func21, Try.ntmps21
        go_wp2_with fail
        generalize hW : World.alloc _ _ = W
        have hz : w.heap.size ≤ W.heap.size := by subst hW; go_size
        have hB : Below w.heap.size w W := by subst hW; go_grown
        obtain ⟨pa, pb, pc, pg, pd, pe, pf, ph, pz⟩ := cells4 (W := W) (b := w.heap.size) (Below.refl _ W) (by subst hW; go_size) (by subst hW; go_simp <;> rfl) (by subst hW; go_simp <;> rfl) (by subst hW; go_simp <;> rfl) (by subst hW; go_simp <;> rfl) (by subst hW; go_simp <;> rfl) (by subst hW; go_simp <;> rfl) (by subst hW; go_simp <;> rfl) (by subst hW; go_simp <;> rfl)
        clear hW
        have Lpa := fun x : Later W.heap.size W => (x.cell pz).trans pa
        have Lpb := fun x : Later W.heap.size W => (x.cell pz).trans pb
        have Lpc := fun x : Later W.heap.size W => (x.cell pz).trans pc
        have Lpg := fun x : Later W.heap.size W => (x.cell pz).trans pg
        refine region_later W.heap.size (by kernel_rfl) (by kernel_rfl) ?_
        repeat (go_big_quiet_step (first | (go_at_call 28; exact later_of (Nat.le_refl _) (refSane_any p.a _)) | (go_at_call 29; exact later_same (refWidth_any _ _))))
        refine wpQuiet_nil ?_
        intro x
        have hx : Below w.heap.size w x.at := hB.trans (x.below.mono hz)
        clear Lpa Lpb Lpc Lpg
        obtain ⟨p'a, p'b, p'c, p'g, p'd, p'e, p'f, p'h, p'z⟩ := cells4 x.below pz pa pb pc pg pd pe pf ph
        clear pa pb pc pd pe pf pg ph pz
        generalize x.at = w1 at *
        clear x hB hz W
        go_wp2
        go_ret
        exact ⟨ret_bool hr.out.symm, hx⟩
      · have t1 : decide (wid p.a.v6 < p.n) = false := by simp [h1]
        have hy := Lib.hid (psane_bits p hs (by omega) (by omega))
        have hn := Lib.hid (psane_bit p)
        clear hs
        go_enter Try.func21, Try.ntmps21
        go_wp2_with fail
        generalize hW : World.alloc _ _ = W
        have hz : w.heap.size ≤ W.heap.size := by subst hW; go_size
        have hB : Below w.heap.size w W := by subst hW; go_grown
        obtain ⟨pa, pb, pc, pg, pd, pe, pf, ph, pz⟩ := cells4 (W := W) (b := w.heap.size) (Below.refl _ W) (by subst hW; go_size) (by subst hW; go_simp <;> rfl) (by subst hW; go_simp <;> rfl) (by subst hW; go_simp <;> rfl) (by subst hW; go_simp <;> rfl) (by subst hW; go_simp <;> rfl) (by subst hW; go_simp <;> rfl) (by subst hW; go_simp <;> rfl) (by subst hW; go_simp <;> rfl)
        clear hW
        have Lpa := fun x : Later W.heap.size W => (x.cell pz).trans pa
        have Lpb := fun x : Later W.heap.size W => (x.cell pz).trans pb
        have Lpc := fun x : Later W.heap.size W => (x.cell pz).trans pc
        have Lpg := fun x : Later W.heap.size W => (x.cell pz).trans pg
        refine region_later W.heap.size (by kernel_rfl) (by kernel_rfl) ?_
        repeat (go_big_quiet_step (first | (go_at_call 28; exact later_of (Nat.le_refl _) (refSane_any p.a _)) | (go_at_call 29; exact later_same (refWidth_any _ _))))
        refine wpQuiet_nil ?_
        intro x
        have hx : Below w.heap.size w x.at := hB.trans (x.below.mono hz)
        clear Lpa Lpb Lpc Lpg
        obtain ⟨p'a, p'b, p'c, p'g, p'd, p'e, p'f, p'h, p'z⟩ := cells4 x.below pz pa pb pc pg pd pe pf ph
        clear pa pb pc pd pe pf pg ph pz
        generalize x.at = w1 at *
        clear x hB hz W
        go_wp2_with fail
        go_loopw [3] (fun v wr => ∃ i : Int, v = .int .i64 i ∧ p.n ≤ i ∧ i ≤ wid p.a.v6 ∧ Hid (∀ j : Nat, p.n ≤ (j : Int) → (j : Int) < i → bitv p.a (j : Int) = 0) ∧ PBox wr w.heap.size p ∧ Below w.heap.size w wr) (fun v _ => (wid p.a.v6 - intOf v).toNat)
        case atStart =>
          exact ⟨p.n, rfl, Int.le_refl _, by omega, fun j h2 h3 => absurd h3 (by omega), ⟨p'a, p'b, p'c, p'g, p'd, p'e, p'f, p'h, p'z⟩, hx⟩
        case round =>
          clear p'a p'b p'c p'd p'e p'f p'g p'h p'z hx
          obtain ⟨i, rfl, h2, h3, hall, ⟨pa, pb, pc, pg, pd, pe, pf, ph, pz⟩, hB⟩ := hrel
          by_cases hlt : i < wid p.a.v6
          · have tl' : decide (i < wid p.a.v6) = true := by simp [hlt]
            by_cases hb : bitv p.a i = 0
            · have hb' : (bitv p.a i == 0) = true := by simp [hb]
              have Hb := Lib.hid hb
              clear hb
              go_wp2_with fail
              refine (refWidth_any p.a.v6 _).mono ?_
              rintro e w2 ⟨rfl, rfl⟩
              go_wp2_with fail
              refine (refBit_any p.a i _).mono ?_
              rintro e w3 ⟨rfl, h4⟩
              obtain ⟨p'a, p'b, p'c, p'g, p'd, p'e, p'f, p'h, p'z⟩ := cells4 h4 pz pa pb pc pg pd pe pf ph
              have b3 := hB.trans (h4.mono hB.size)
              clear h4 hB pa pb pc pd pe pf pg ph pz
              go_wp2_with fail
              refine ⟨⟨i + 1, rfl, by omega, by omega, fun j h5 h6 => ?_, ⟨p'a, p'b, p'c, p'g, p'd, p'e, p'f, p'h, p'z⟩, b3⟩, by simp [intOf]; omega⟩
              by_cases e : (j : Int) = i
              · rw [e]; exact Hb.out
              · exact hall.out j h5 (by omega)
            · have hb' : (bitv p.a i == 0) = false := by simp [hb]
              have hr : Hid (psane p = false) := by
                cases hp : psane p
                · exact rfl
                · obtain ⟨k, rfl⟩ := Int.eq_ofNat_of_zero_le (show 0 ≤ i by omega)
                  rw [wid_wd] at hlt
                  exact absurd (hn.out hp k h2 (by omega)) hb
              clear hb
              go_wp2_with fail
              refine (refWidth_any p.a.v6 _).mono ?_
              rintro e w2 ⟨rfl, rfl⟩
              go_wp2_with fail
              refine (refBit_any p.a i _).mono ?_
              rintro e w3 ⟨rfl, h4⟩
              have b3 := hB.trans (h4.mono hB.size)
              clear h4 hB pa pb pc pd pe pf pg ph pz
              go_wp2
              go_ret
              exact ⟨ret_bool hr.out.symm, b3⟩
          · have tl' : decide (i < wid p.a.v6) = false := by simp [hlt]
            have hr : Hid (psane p = true) := hy.out fun j h5 h6 => hall.out j h5 (by rw [wid_wd] at hlt; omega)
            go_wp2_with fail
            refine (refWidth_any p.a.v6 _).mono ?_
            rintro e w2 ⟨rfl, rfl⟩
            go_wp2
            go_ret
            exact ⟨ret_bool hr.out.symm, hB⟩

end Go.Proofs.Ytpigdjlanabacaa

namespace Go.Proofs.Ytpigdjlanabacaa
open Go.RowKit
set_option maxRecDepth 100000

/-- One byte in a block. -/
theorem rd_one {w : World} {g : Nat} {x : Int} (hg : w.heap[g]? = some (.cells #[.int .u8 x] 5 (0, 0))) (x0 : 0 ≤ x ∧ x < 256) : Rd w (some ⟨g, 0, none⟩) 1 [x] := by
  refine ⟨by simp, by simp only [maxLen]; omega, ?_, fun _ => ⟨g, 0, rfl, (Array.getElem?_eq_some_iff.1 hg).1, fun j hj => ?_⟩⟩
  · intro z hz
    simp at hz
    subst hz
    exact x0
  · rw [Nat.zero_add, cell_of_row w g j _ _ _ hg]
    simp at hj
    subst hj
    rfl

set_option maxHeartbeats 2000000 in
theorem rput_no (A : Option Addr) (c : Nat) (l : List Int) (p : Pf) (w : World) (h : Rd w A c l) (hb : l.length ≤ 400000) (hs : psane p = false) : Calls Try.prog 27 #[.slice A l.length c, .agg #[.int .u64 (u p.a.hi), .int .u64 (u p.a.lo), .bool p.a.v6, .int .i64 p.n]] w (RowPost w (l ++ putP p)) := by
  have HR := Lib.hid h
  have Hs := Lib.hid hs
  clear h hs
  go_enter Try.func27, Try.ntmps27
  go_upto_region 2 with (
    at_builtin
    refine wpList_bytes rfl (.tmp 6) (.tmp 7) rfl (w.heap.size + 1) _ 0 [] (by rfl) (own_lit (xs := bv []) (heap_new_at (by simp)) (Nat.le_refl _) (by simp only [maxLen]; omega) rfl) _ _ c l (by rfl) rfl (HR.out.keep (by go_grown)) (by omega) (by first | (simp; done) | (simp; omega)) ?_
    intro v1 w1 ho1 hb1
    have H1 := Lib.hid ho1
    have z1 : w.heap.size + 1 + 1 ≤ w1.heap.size := Nat.le_trans (by first | (simp; done) | (simp; omega)) hb1.size
    obtain ⟨pa, pb, pc, pg, pd, pe, pf, ph, pz⟩ := cut4 (b := w.heap.size) hb1 (by omega) (by omega) (by go_simp <;> rfl) (by go_simp <;> rfl) (by go_simp <;> rfl) (by go_simp <;> rfl) (by go_simp <;> rfl) (by go_simp <;> rfl) (by go_simp <;> rfl) (by go_simp <;> rfl)
    have bw1 : Below w.heap.size w w1 := Below.trans (by go_grown) (hb1.mono (Nat.le_succ _))
    clear ho1 hb1
    )
  go_wp2_with fail
  refine (rpsane_any p _).mono ?_
  rintro e w2 ⟨rfl, hw2⟩
  rw [Hs.out]
  have bw2 := bw1.trans (hw2.mono bw1.size)
  have H2 := Lib.hid (own_keep H1.out hw2)
  clear hw2 H1
  go_wp2
  go_ret
  have e0 : putP p = [] := by unfold putP; rw [Hs.out]; rfl
  rw [e0, List.append_nil]
  exact ⟨_, rfl, own_base (own_fit (show w2.ownsRow (w.heap.size + 1) 5 1 v1 _ (bv l) by simpa using H2.out)) (Nat.le_succ _), bw2⟩

theorem cut5 {B : Nat} {W w1 : World} {b : Nat} {c0 c1 c2 c3 c4 : Value} (hb : Below B W w1) (hz : B ≤ w1.heap.size) (hlt : b < B) (h0 : W.cell? ⟨b, 0, none⟩ = some c0) (h1 : W.cell? ⟨b, 1, none⟩ = some c1) (h2 : W.cell? ⟨b, 2, none⟩ = some c2) (h3 : W.cell? ⟨b, 3, none⟩ = some c3) (h4 : W.cell? ⟨b, 4, none⟩ = some c4)
    (f0 : W.frozen? ⟨b, 0, none⟩ = false) (f1 : W.frozen? ⟨b, 1, none⟩ = false) (f2 : W.frozen? ⟨b, 2, none⟩ = false) (f3 : W.frozen? ⟨b, 3, none⟩ = false) (f4 : W.frozen? ⟨b, 4, none⟩ = false) :
    w1.cell? ⟨b, 0, none⟩ = some c0 ∧ w1.cell? ⟨b, 1, none⟩ = some c1 ∧ w1.cell? ⟨b, 2, none⟩ = some c2 ∧ w1.cell? ⟨b, 3, none⟩ = some c3 ∧ w1.cell? ⟨b, 4, none⟩ = some c4 ∧
      w1.frozen? ⟨b, 0, none⟩ = false ∧ w1.frozen? ⟨b, 1, none⟩ = false ∧ w1.frozen? ⟨b, 2, none⟩ = false ∧ w1.frozen? ⟨b, 3, none⟩ = false ∧ w1.frozen? ⟨b, 4, none⟩ = false ∧ b < w1.heap.size :=
  ⟨(hb.cell hlt).trans h0, (hb.cell hlt).trans h1, (hb.cell hlt).trans h2, (hb.cell hlt).trans h3, (hb.cell hlt).trans h4, (hb.frozen hlt).trans f0, (hb.frozen hlt).trans f1, (hb.frozen hlt).trans f2, (hb.frozen hlt).trans f3, (hb.frozen hlt).trans f4, Nat.lt_of_lt_of_le hlt hz⟩

theorem keep4B {B : Nat} {W w' : World} {b : Nat} {c0 c1 c2 c3 : Value} (h : Below B W w') (h0 : W.cell? ⟨b, 0, none⟩ = some c0) (h1 : W.cell? ⟨b, 1, none⟩ = some c1) (h2 : W.cell? ⟨b, 2, none⟩ = some c2) (h3 : W.cell? ⟨b, 3, none⟩ = some c3) (e : B = b + 1 := by rfl) :
    w'.cell? ⟨b, 0, none⟩ = some c0 ∧ w'.cell? ⟨b, 1, none⟩ = some c1 ∧ w'.cell? ⟨b, 2, none⟩ = some c2 ∧ w'.cell? ⟨b, 3, none⟩ = some c3 ∧ Below B W w' := by
  have hb : b < B := by omega
  exact ⟨(h.cell hb).trans h0, (h.cell hb).trans h1, (h.cell hb).trans h2, (h.cell hb).trans h3, h⟩
set_option maxHeartbeats 8000000 in
theorem rput_yes (A : Option Addr) (c : Nat) (l : List Int) (p : Pf) (w : World) (h : Rd w A c l) (hb : l.length ≤ 400000) (hs : psane p = true) : Calls Try.prog 27 #[.slice A l.length c, .agg #[.int .u64 (u p.a.hi), .int .u64 (u p.a.lo), .bool p.a.v6, .int .i64 p.n]] w (RowPost w (l ++ putP p)) := by
  have n0 := ((psane_iff p).1 hs).2.1
  have n1 := ((psane_iff p).1 hs).2.2.1
  have hwd := wid_bd p.a.v6
  have hn := (need_le p.a.v6 p.n n0 n1).1
  have hnb := nb_le p.a.v6
  have hq : (p.n + 7) / 8 = ((need p.n : Nat) : Int) := (need_le p.a.v6 p.n n0 n1).2.symm
  have hn' : ((need p.n : Nat) : Int) ≤ ((nb p.a.v6 : Nat) : Int) := by omega
  have hu : IntKind.u8.wrap p.n = p.n := by rw [IntKind.wrap_u8]; omega
  have HP := Lib.hid (show putP p = [kindOf p.a.v6] ++ ([p.n] ++ (List.range (need p.n)).map (byteAt p.a)) by unfold putP; rw [if_pos hs]; rfl)
  have HR := Lib.hid h
  have Hs := Lib.hid hs
  clear h hs
  go_enter Try.func27, Try.ntmps27
  go_upto_region 2 with (
    at_builtin
    refine wpList_bytes rfl (.tmp 6) (.tmp 7) rfl (w.heap.size + 1) _ 0 [] (by rfl) (own_lit (xs := bv []) (heap_new_at (by simp)) (Nat.le_refl _) (by simp only [maxLen]; omega) rfl) _ _ c l (by rfl) rfl (HR.out.keep (by go_grown)) (by omega) (by first | (simp; done) | (simp; omega)) ?_
    intro v1 w1 ho1 hb1
    have H1 := Lib.hid ho1
    have z1 : w.heap.size + 1 + 1 ≤ w1.heap.size := Nat.le_trans (by first | (simp; done) | (simp; omega)) hb1.size
    obtain ⟨pa, pb, pc, pg, pd, pe, pf, ph, pz⟩ := cut4 (b := w.heap.size) hb1 (by omega) (by omega) (by go_simp <;> rfl) (by go_simp <;> rfl) (by go_simp <;> rfl) (by go_simp <;> rfl) (by go_simp <;> rfl) (by go_simp <;> rfl) (by go_simp <;> rfl) (by go_simp <;> rfl)
    have bw1 : Below w.heap.size w w1 := Below.trans (by go_grown) (hb1.mono (Nat.le_succ _))
    clear ho1 hb1
    )
  go_wp2_with fail
  refine (rpsane_any p _).mono ?_
  rintro e w2 ⟨rfl, hw2⟩
  rw [Hs.out]
  have bw2 := bw1.trans (hw2.mono bw1.size)
  have z2 : w.heap.size + 1 + 1 ≤ w2.heap.size := Nat.le_trans z1 hw2.size
  have H2 := Lib.hid (own_keep H1.out hw2)
  obtain ⟨qa, qb, qc, qg, qd, qe, qf, qh, qz⟩ := cells4 hw2 pz pa pb pc pg pd pe pf ph
  clear hw2 H1 pa pb pc pd pe pf pg ph pz
  go_upto_region 7 with (
    at_builtin
    first
      | (refine wpList_bytes (o := ⟨some 18, _, _, _, _, _⟩) rfl (.tmp 16) (.tmp 17) rfl (w.heap.size + 1) _ _ _ (by rfl) (H2.out.alloc _) _ _ 1 [6] (by rfl) rfl (rd_one (heap_alloc_new w2 _) (by omega)) (by simp; omega) (by simp; omega) ?_)
      | (refine wpList_bytes (o := ⟨some 21, _, _, _, _, _⟩) rfl (.tmp 19) (.tmp 20) rfl (w.heap.size + 1) _ _ _ (by rfl) (H2.out.alloc _) _ _ 1 [4] (by rfl) rfl (rd_one (heap_alloc_new w2 _) (by omega)) (by simp; omega) (by simp; omega) ?_)
    intro v3 w3 ho3 hb3
    )
  · rename p.a.v6 = true => hv
    have ek : kindOf p.a.v6 = 6 := by unfold kindOf; rw [hv]; rfl
    clear hv
    have HQ := Lib.hid (HP.out.trans (by rw [ek] : _ = [6] ++ ([p.n] ++ (List.range (need p.n)).map (byteAt p.a))))
    clear ek HP
    have z3 : w.heap.size + 1 + 1 ≤ w3.heap.size := Nat.le_trans (by first | (simp; done) | (simp; omega)) hb3.size
    obtain ⟨pa, pb, pc, pg, pd, pe, pf, ph, pz⟩ := cut4 (b := w.heap.size) hb3 (by omega) (by omega) (by go_simp <;> rfl) (by go_simp <;> rfl) (by go_simp <;> rfl) (by go_simp <;> rfl) (by go_simp <;> rfl) (by go_simp <;> rfl) (by go_simp <;> rfl) (by go_simp <;> rfl)
    have bw3 : Below w.heap.size w w3 := (bw2.alloc (by omega) _).trans (hb3.mono (Nat.le_succ _))
    have H3 := Lib.hid ho3
    clear ho3 hb3 H2 qa qb qc qd qe qf qg qh qz
    go_upto_region 8 with (
      at_builtin
      refine wpList_bytes rfl (.tmp 22) (.tmp 26) rfl (w.heap.size + 1) _ _ _ (by rfl) (H3.out.alloc _) _ _ 1 [p.n] (by rfl) rfl (rd_one (heap_alloc_new w3 _) (by omega)) (by simp; omega) (by simp; omega) ?_
      intro v4 w4 ho4 hb4
      )
    have z4 : w.heap.size + 1 + 1 ≤ w4.heap.size := Nat.le_trans (by first | (simp; done) | (simp; omega)) hb4.size
    obtain ⟨qa, qb, qc, qg, qd, qe, qf, qh, qz⟩ := cut4 (b := w.heap.size) hb4 (by omega) (by omega) (by go_simp <;> rfl) (by go_simp <;> rfl) (by go_simp <;> rfl) (by go_simp <;> rfl) (by go_simp <;> rfl) (by go_simp <;> rfl) (by go_simp <;> rfl) (by go_simp <;> rfl)
    have bw4 : Below w.heap.size w w4 := (bw3.alloc (by omega) _).trans (hb4.mono (Nat.le_succ _))
    have H4 := Lib.hid (own_fit ho4)
    clear ho4 hb4 H3 pa pb pc pd pe pf pg ph pz
    obtain ⟨W, rfl⟩ : ∃ W, W = w4 := ⟨_, rfl⟩
    have hs1 : IntKind.i64.wrap (p.n + 7) = p.n + 7 := by rw [IntKind.wrap_i64]; omega
    have hs2 : (p.n + 7).tdiv 8 = ((need p.n : Nat) : Int) := by rw [Int.tdiv_eq_ediv_of_nonneg (by omega)]; exact hq
    have hs3 : IntKind.i64.wrap ((need p.n : Nat) : Int) = ((need p.n : Nat) : Int) := by rw [IntKind.wrap_i64]; omega
    have hs4 : (0 : Int) ≤ ((need p.n : Nat) : Int) := by omega
    go_region_held3 (fun w' => w'.cell? ⟨w.heap.size, 0, none⟩ = some (.int .u64 (u p.a.hi)) ∧ w'.cell? ⟨w.heap.size, 1, none⟩ = some (.int .u64 (u p.a.lo)) ∧ w'.cell? ⟨w.heap.size, 2, none⟩ = some (.bool p.a.v6) ∧ w'.cell? ⟨w.heap.size, 3, none⟩ = some (.int .i64 p.n) ∧ Below (w.heap.size + 1) W w')
      (first | exact keep4B hk7 qa qb qc qg | exact keep4B hk5 qa qb qc qg | (refine keep4B ?_ qa qb qc qg; go_grown))
      (first
        | (go_at_call 34; refine (refBytes_full p.a _).mono ?_; rintro e w5 ⟨g, rfl, hg, hrow, hw5⟩; have hk5' := below_of (w := W) (by go_grown) hw5; have zk5 := hk5'.size; have hk5 : Below (w.heap.size + 1) W w5 := hk5'.mono (by omega); have H5 := Lib.hid (own_keep H4.out hk5'); have Hrow := Lib.hid hrow; clear hrow)
        | (refine step_bytes (o := ⟨some 37, _, _, _, _, _⟩) (by rfl) (.tmp 28) (.tmp 36) (by rfl) (w.heap.size + 1) _ _ _ (by rfl) H5.out _ _ _ ((List.range (need p.n)).map (byteAt p.a)) (by rfl) (by simp) (rd_row Hrow.out hn (by omega) (byteAt_bd p.a)) (by simp; omega) (by omega) ?_; intro v6 w7 hown7 hg7; have H7 := Lib.hid hown7; clear hown7; have hk7 : Below (w.heap.size + 1) W w7 := hk5.trans hg7))
    all_goals
      go_wp2
      go_ret
      rw [HQ.out]
      exact ⟨_, rfl, own_base (by simpa using own_fit H7.out) (Nat.le_succ _), bw4.trans (hk7.mono (Nat.le_succ _))⟩
  · rename p.a.v6 = false => hv
    have ek : kindOf p.a.v6 = 4 := by unfold kindOf; rw [hv]; rfl
    clear hv
    have HQ := Lib.hid (HP.out.trans (by rw [ek] : _ = [4] ++ ([p.n] ++ (List.range (need p.n)).map (byteAt p.a))))
    clear ek HP
    have z3 : w.heap.size + 1 + 1 ≤ w3.heap.size := Nat.le_trans (by first | (simp; done) | (simp; omega)) hb3.size
    obtain ⟨pa, pb, pc, pg, pd, pe, pf, ph, pz⟩ := cut4 (b := w.heap.size) hb3 (by omega) (by omega) (by go_simp <;> rfl) (by go_simp <;> rfl) (by go_simp <;> rfl) (by go_simp <;> rfl) (by go_simp <;> rfl) (by go_simp <;> rfl) (by go_simp <;> rfl) (by go_simp <;> rfl)
    have bw3 : Below w.heap.size w w3 := (bw2.alloc (by omega) _).trans (hb3.mono (Nat.le_succ _))
    have H3 := Lib.hid ho3
    clear ho3 hb3 H2 qa qb qc qd qe qf qg qh qz
    go_upto_region 8 with (
      at_builtin
      refine wpList_bytes rfl (.tmp 22) (.tmp 26) rfl (w.heap.size + 1) _ _ _ (by rfl) (H3.out.alloc _) _ _ 1 [p.n] (by rfl) rfl (rd_one (heap_alloc_new w3 _) (by omega)) (by simp; omega) (by simp; omega) ?_
      intro v4 w4 ho4 hb4
      )
    have z4 : w.heap.size + 1 + 1 ≤ w4.heap.size := Nat.le_trans (by first | (simp; done) | (simp; omega)) hb4.size
    obtain ⟨qa, qb, qc, qg, qd, qe, qf, qh, qz⟩ := cut4 (b := w.heap.size) hb4 (by omega) (by omega) (by go_simp <;> rfl) (by go_simp <;> rfl) (by go_simp <;> rfl) (by go_simp <;> rfl) (by go_simp <;> rfl) (by go_simp <;> rfl) (by go_simp <;> rfl) (by go_simp <;> rfl)
    have bw4 : Below w.heap.size w w4 := (bw3.alloc (by omega) _).trans (hb4.mono (Nat.le_succ _))
    have H4 := Lib.hid (own_fit ho4)
    clear ho4 hb4 H3 pa pb pc pd pe pf pg ph pz
    obtain ⟨W, rfl⟩ : ∃ W, W = w4 := ⟨_, rfl⟩
    have hs1 : IntKind.i64.wrap (p.n + 7) = p.n + 7 := by rw [IntKind.wrap_i64]; omega
    have hs2 : (p.n + 7).tdiv 8 = ((need p.n : Nat) : Int) := by rw [Int.tdiv_eq_ediv_of_nonneg (by omega)]; exact hq
    have hs3 : IntKind.i64.wrap ((need p.n : Nat) : Int) = ((need p.n : Nat) : Int) := by rw [IntKind.wrap_i64]; omega
    have hs4 : (0 : Int) ≤ ((need p.n : Nat) : Int) := by omega
    go_region_held3 (fun w' => w'.cell? ⟨w.heap.size, 0, none⟩ = some (.int .u64 (u p.a.hi)) ∧ w'.cell? ⟨w.heap.size, 1, none⟩ = some (.int .u64 (u p.a.lo)) ∧ w'.cell? ⟨w.heap.size, 2, none⟩ = some (.bool p.a.v6) ∧ w'.cell? ⟨w.heap.size, 3, none⟩ = some (.int .i64 p.n) ∧ Below (w.heap.size + 1) W w')
      (first | exact keep4B hk7 qa qb qc qg | exact keep4B hk5 qa qb qc qg | (refine keep4B ?_ qa qb qc qg; go_grown))
      (first
        | (go_at_call 34; refine (refBytes_full p.a _).mono ?_; rintro e w5 ⟨g, rfl, hg, hrow, hw5⟩; have hk5' := below_of (w := W) (by go_grown) hw5; have zk5 := hk5'.size; have hk5 : Below (w.heap.size + 1) W w5 := hk5'.mono (by omega); have H5 := Lib.hid (own_keep H4.out hk5'); have Hrow := Lib.hid hrow; clear hrow)
        | (refine step_bytes (o := ⟨some 37, _, _, _, _, _⟩) (by rfl) (.tmp 28) (.tmp 36) (by rfl) (w.heap.size + 1) _ _ _ (by rfl) H5.out _ _ _ ((List.range (need p.n)).map (byteAt p.a)) (by rfl) (by simp) (rd_row Hrow.out hn (by omega) (byteAt_bd p.a)) (by simp; omega) (by omega) ?_; intro v6 w7 hown7 hg7; have H7 := Lib.hid hown7; clear hown7; have hk7 : Below (w.heap.size + 1) W w7 := hk5.trans hg7))
    all_goals
      go_wp2
      go_ret
      rw [HQ.out]
      exact ⟨_, rfl, own_base (by simpa using own_fit H7.out) (Nat.le_succ _), bw4.trans (hk7.mono (Nat.le_succ _))⟩
theorem rput_any (A : Option Addr) (c : Nat) (l : List Int) (p : Pf) (w : World) (h : Rd w A c l) (hb : l.length ≤ 400000) : Calls Try.prog 27 #[.slice A l.length c, .agg #[.int .u64 (u p.a.hi), .int .u64 (u p.a.lo), .bool p.a.v6, .int .i64 p.n]] w (RowPost w (l ++ putP p)) := by
  cases hs : psane p
  · exact rput_no A c l p w h hb hs
  · exact rput_yes A c l p w h hb hs

end Go.Proofs.Ytpigdjlanabacaa
