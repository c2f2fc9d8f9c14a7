/-
  What Clone and Reverse of Go's package slices leave of entries, and what ruleOf of package victim returns. Condition: the entries lie where the argument says; a row that is reversed is the caller's own.
-/
import Derived.Test.YtmmggalcebepeaaNk
import Derived.Test.YtmmggalcebepeaaRn
import Derived.Test.YtmmggalcebepeaaNr
import Derived.WideLaws
namespace Go.Proofs.Ytmmggalcebepeaa
open Go.RowKit
set_option maxRecDepth 100000

def nth (l : List Ent) (k : Nat) : Ent := l.getD k en0
theorem nth_sc (l : List Ent) (k : Nat) : (nth l k).sc = scL l k := rfl
theorem nth_nu (l : List Ent) (k : Nat) : (nth l k).i = nuL l k := rfl
theorem nth_at (l : List Ent) (k : Nat) (h : k < l.length) : nth l k = l[k] := by unfold nth; rw [List.getD_eq_getElem?_getD, List.getElem?_eq_getElem h]; rfl
theorem row_nth (l : List Ent) : (KP (nth l)).row (rowP l.length id) = KE.row l := by
  unfold Kd.row rowP
  rw [List.map_id, ]
  have e : l = (List.range l.length).map (nth l) := by
    apply List.ext_getElem
    · simp
    · intro k h1 h2
      rw [List.getElem_map, List.getElem_range, nth_at l k h1]
  conv => rhs; rw [e, List.flatMap_map]
  rfl
@[simp] theorem nil_ents (A : Option Addr) (n c : Nat) (w : World) : (binOp .eql 26 (.slice A n c) (.slice none 0 0)).run Try.prog w = .ok (.bool A.isNone) w := Lib.run_eql_slice_nil w _ _ A n c 0 0 Try.underlying26

set_option maxHeartbeats 2000000 in
theorem clone12_any (A : Option Addr) (c : Nat) (l : List Ent) (w : World) (hr : KE.Rd w A l) (hA : A = none → l = [] ∧ c = 0) (hl : l.length ≤ 100000000) :
    Calls Try.prog 16 #[.slice A l.length c] w (EntPost w l) := by
  have HR := Lib.hid hr
  clear hr
  cases A with
  | none =>
    obtain ⟨rfl, rfl⟩ := hA rfl
    have t0 : (none : Option Addr).isNone = true := rfl
    go_enter Try.func16, Try.ntmps16
    go_wp2
    go_ret
    exact ⟨none, 0, rfl, World.ownsRow_nil _ _ _ _, by first | exact Below.refl _ _ | go_grown⟩
  | some ad =>
    have t0 : (some ad).isNone = false := rfl
    go_enter Try.func16, Try.ntmps16
    go_wp2_with (at_builtin; refine Kd.wpList_many KE_ty rfl (.tmp 5) (.tmp 6) rfl w.heap.size _ 0 [] rfl (by rfl) (own_empty (hp_new rfl) _ (Nat.le_refl _)) _ l.length c l rfl (fun e => by cases e) (by rfl) (HR.out.kept (by go_grown)) (by omega) (by first | (simp; done) | go_size) ?_; intro A1 c1 w1 hG; have b1 : Below w.heap.size w w1 := Below.trans (by go_grown) hG.2.2.2; have HG := Lib.hid hG.1; clear hG)
    go_ret
    have hG := HG.out
    rw [List.nil_append, Nat.zero_add] at hG
    exact ⟨A1, c1, by simp, hG, b1⟩

/-- k of them changed places with those at the end. -/
def revR (n k : Nat) (D : Nat → Nat) : Nat → Nat := fun x => if (x < k ∨ n - k ≤ x) ∧ x < n then D (n - 1 - x) else D x
theorem revR_zero (n : Nat) (D : Nat → Nat) : revR n 0 D = D := by
  funext x
  unfold revR
  rw [if_neg (by omega)]
theorem revR_step (n k : Nat) (D : Nat → Nat) (h : k < n - 1 - k) : sw (revR n k D) k (n - 1 - k) = revR n (k + 1) D := by
  funext x
  unfold sw revR
  repeat' split
  all_goals first | omega | rfl | (congr 1; omega)
theorem revR_end (n k : Nat) (D : Nat → Nat) (h : ¬ k < n - 1 - k) (x : Nat) (hx : x < n) : revR n k D x = D (n - 1 - x) := by
  unfold revR
  split
  · rfl
  · congr 1
    omega

set_option maxHeartbeats 2000000 in
theorem reverse12_any (w : World) (B : Nat) (A : Option Addr) (n c : Nat) (f : Nat → Ent) (D : Nat → Nat) (h : RP w B A n c f D) (hn : n ≤ 1000000) :
    Calls Try.prog 17 #[.slice A n c] w fun e w' => ∃ D', RPost w B A n c f D' e w' ∧ ∀ x, x < n → D' x = D (n - 1 - x) := by
  have HR := Lib.hid h
  have h8 : (-1 : Int) ≤ (n : Int) - 1 := by omega
  have h9 : (n : Int) - 1 ≤ 1000000 := by omega
  clear h
  go_enter Try.func17, Try.ntmps17
  go_wp2_with fail
  clear h8 h9
  go_loopw [2, 3] (fun i j wr => ∃ (k : Nat), i = .int .i64 k ∧ j = .int .i64 ((n : Int) - 1 - (k : Int)) ∧ (2 * k ≤ n) ∧ RP wr B A n c f (revR n k D) ∧ Below B w wr) (fun i _ _ => n - (RowKit.intOf i).toNat)
  case atStart => exact ⟨0, rfl, by go_num, by omega, by rw [revR_zero]; exact HR.out, Below.refl _ _⟩
  case round =>
    obtain ⟨k, rfl, rfl, hk, hr, hB⟩ := hrel
    have HK2 := Lib.hid hr
    have HB2 := Lib.hid hB
    clear hr hB
    obtain ⟨W, rfl⟩ : ∃ W, W = wr := ⟨_, rfl⟩
    by_cases hlt : k < n - 1 - k
    · obtain ⟨p, hp⟩ : ∃ p, p = n - 1 - k := ⟨_, rfl⟩
      have ep : (n : Int) - 1 - (k : Int) = (p : Int) := by omega
      rw [ep]
      have hlt' : (k : Int) < (p : Int) := by omega
      have wp : IntKind.i64.wrap (p : Int) = (p : Int) := by rw [IntKind.wrap_i64]; omega
      have p1 : (p : Int) - 1 = (n : Int) - 1 - ((k + 1 : Nat) : Int) := by omega
      have hp9 : 1 ≤ (p : Int) ∧ (p : Int) ≤ 1000000 := by omega
      obtain ⟨A0, rfl, gB, gz⟩ := HK2.out.addr (by omega)
      obtain ⟨DD, hDD⟩ : ∃ DD, DD = revR n k D := ⟨_, rfl⟩
      rw [← hDD] at HK2
      have HSW : Hid (sw DD k p = revR n (k + 1) D) := Lib.hid (by rw [hDD, hp]; exact revR_step n k D hlt)
      have hpn : p < n := by omega
      have hkn : k < n := by omega
      have HP1 : Hid ((p : Int) - 1 = (n : Int) - 1 - ((k + 1 : Nat) : Int) ∧ 2 * (k + 1) ≤ n) := Lib.hid ⟨p1, by omega⟩
      clear hp hDD ep p1
      obtain ⟨q0, q1, qf0, qf1⟩ := HK2.out.cells k (by omega)
      obtain ⟨p0, p1, pf0, pf1⟩ := HK2.out.cells p (by omega)
      have iq := fun V => idx_ent A0 n c k (by omega) V
      have ip := fun V => idx_ent A0 n c p (by omega) V
      have HN := Lib.hid (RP.swapped (w := W.drew) (HK2.out.keep ((Below.refl _ _).drew)) k p (by omega) (by omega))
      have HBN := Lib.hid (below_set4 (i := k) (j := p) (y0 := .int .i64 (f (DD p)).i) (y1 := .int .i64 (f (DD p)).sc) (y2 := .int .i64 (f (DD k)).i) (y3 := .int .i64 (f (DD k)).sc) HB2.out.drew gB)
      clear HB2 HK2
      rw [HSW.out] at HN
      generalize f (DD p) = e1 at *
      generalize f (DD k) = e2 at *
      go_wp2_with fail
      go_region
      all_goals go_wp2
      all_goals exact ⟨⟨k + 1, by go_num, by rw [← HP1.out.1], HP1.out.2, HN.out, HBN.out⟩, by simp [RowKit.intOf]; omega⟩
    · have hlt' : ¬ (k : Int) < (n : Int) - 1 - (k : Int) := by omega
      go_wp2
      go_end0
      exact ⟨_, ⟨rfl, HK2.out, HB2.out⟩, fun x hx => revR_end n k D hlt x hx⟩

def ruleF (pol : Int) : FuncId := if pol = 1 then 19 else 21
theorem rule_cmp (pol : Int) (l : List Ent) : Cmp (ruleF pol) (nth l) (cfP pol l) := by
  unfold ruleF
  by_cases hp : pol = 1
  · rw [if_pos hp]
    have e : cfP pol l = fun x y => cmp12 (nth l x).sc (nth l y).sc := by
      funext x y
      unfold cfP
      rw [if_pos hp]
      rfl
    rw [e]
    exact cmp_light (nth l)
  · rw [if_neg hp]
    have e : cfP pol l = fun _ _ => 0 := by
      funext x y
      unfold cfP
      rw [if_neg hp]
    rw [e]
    exact cmp_lru (nth l)
theorem ret_fn {x y : FuncId} (h : x = y) : Ending.returned (.agg #[.func (.func x) #[] #[]]) = .returned (.agg #[.func (.func y) #[] #[]]) := by rw [h]
set_option maxHeartbeats 400000 in
theorem rule_any (pol : Int) (w : World) : Calls Try.prog 14 #[.int .i64 pol] w fun e w' => e = .returned (.agg #[.func (.func (ruleF pol)) #[] #[]]) ∧ Below w.heap.size w w' := by
  by_cases hp : pol = 1
  · have hr := Lib.hid (show ruleF pol = 19 from if_pos hp)
    have t1 : (pol == 1) = true := by simp [hp]
    have hst := fun (W : World) (a : Addr) m => run_store Try.prog W a (Value.func (.func 19) #[] #[]) m rfl
    clear hp
    go_enter Try.func14, Try.ntmps14
    go_wp2
    refine bodyPost_ret (v := .agg #[.func (.func 19) #[] #[]]) (by simp [*, results, Try.results14, go_sem] <;> rfl) rfl ⟨ret_fn hr.out.symm, by go_grown⟩
  · have hr := Lib.hid (show ruleF pol = 21 from if_neg hp)
    have t1 : (pol == 1) = false := by simp [hp]
    have hst := fun (W : World) (a : Addr) m => run_store Try.prog W a (Value.func (.func 21) #[] #[]) m rfl
    clear hp
    go_enter Try.func14, Try.ntmps14
    go_wp2
    refine bodyPost_ret (v := .agg #[.func (.func 21) #[] #[]]) (by simp [*, results, Try.results14, go_sem] <;> rfl) rfl ⟨ret_fn hr.out.symm, by go_grown⟩

end Go.Proofs.Ytmmggalcebepeaa
