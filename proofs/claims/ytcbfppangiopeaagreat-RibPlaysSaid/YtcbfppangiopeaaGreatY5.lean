/-
  RibPlays: for every input the call returns true, and each argument reads afterwards as it read before. No condition.
-/
import Derived.Test.YtcbfppangiopeaaGreatY4
import Derived.Test.YtcbfppangiopeaaGreatShelf
import Derived.Maps.RangeWalk
import Derived.Lib.SlKeysI
import Derived.OwnWalkIn
import Derived.OwnWalk
import Derived.Test.YtcbfppangiopeaaGreatY2
import Derived.Deep.RegionHeld3
import Derived.Deep.DeepCutAuto
import Derived.Test.YtcbfppangiopeaaGreatY1
namespace Go.Proofs.YtcbfppangiopeaaGreat
open Go.RowKit Go.Maps Go.Sort Go.Shelf
set_option maxRecDepth 100000

/-- Each once. -/
def ddL : List Int → List Int
  | [] => []
  | x :: r => if x ∈ ddL r then ddL r else x :: ddL r
theorem mem_dd : ∀ (l : List Int) (x : Int), x ∈ ddL l ↔ x ∈ l := by
  intro l
  induction l with
  | nil => intro x; exact Iff.rfl
  | cons y r ih =>
    intro x
    unfold ddL
    split
    · rename_i hy
      rw [ih, List.mem_cons]
      exact ⟨.inr, fun e => e.elim (fun e => e ▸ (ih y).1 hy) id⟩
    · rw [List.mem_cons, List.mem_cons, ih]
theorem nodup_dd : ∀ l : List Int, (ddL l).Nodup := by
  intro l
  induction l with
  | nil => exact List.nodup_nil
  | cons y r ih =>
    unfold ddL
    split
    · exact ih
    · rename_i hy
      exact List.nodup_cons.2 ⟨hy, ih⟩
/-- The hops, rising, each once. -/
def hopS (L : List Pr) : List Int := (ddL (hopsL L)).mergeSort leI
theorem hopS_len (L : List Pr) : (hopS L).length = unl (hopsL L) := by
  unfold hopS
  rw [List.length_mergeSort]
  exact unl_dist (nodup_dd _) (mem_dd _)
theorem dd_perm {w : World} {m n : Nat} {D : DataW Unit} {hs : List Int} (h : cnts w m n D) (hu : Uses D hs) : (ddL hs).Perm (intKeys D) := by
  have hc : CollectedI D (fun _ => false) (ddL hs) := ⟨nodup_dd hs, fun x => by
    rw [mem_dd, hu.has x]
    simp only [decide_eq_true_eq, and_true]
    exact List.count_pos_iff.symm⟩
  exact hc.perm h lawI Tryz.underlying3 (fun _ => rfl)
/-- A fresh row of numbers. -/
def IntsPost (w : World) (l : List Int) (e : Ending) (w' : World) : Prop := ∃ v, e = .returned v ∧ w'.ownsRow w.heap.size 3 1 v l.length (l.map encZ) ∧ Below w.heap.size w w'
theorem sorts_any (m : Nat) : AnyZI.SortsIn Tryz.prog Tryz.sortedA_ren Fence.wide m :=
  ⟨fun blk off cap ss W hH hblk hsz => callsIn_wide.2 (AnyM.slices_Sort_int Tryz.sortA blk off cap ss W hH hblk hsz),
   fun p cap W => callsIn_wide.2 (AnyM.slices_Sort_int_none Tryz.sortA p cap W)⟩
theorem keys_calls (mb : Option Nat) (W : World) : Calls Tryz.prog 61 #[.map mb] W fun e w' => e = .returned (.func (.func 85) #[] #[.pointer (some ⟨W.heap.size, 0, none⟩)]) ∧ w' = W.alloc (.cells #[.map mb] 58) :=
  (callsIn_wide (n := 5)).1 (AnyZI.keys_in Tryz.keysA Fence.wide 5 trivial rfl mb W)
theorem sorted_calls {b nn : Nat} {D0 : DataW Unit} (w : World) (hown : cnts w b nn D0) (hz : Maps.size D0 ≤ 100000) : Calls Tryz.prog 60 #[.func (.func 85) #[] #[.pointer (some ⟨w.heap.size, 0, none⟩)]] (w.alloc (.cells #[.map (some b)] 58)) fun e w' => ∃ (v : Value) (ss : List Int), e = .returned v ∧ ss.Perm (intKeys D0) ∧
      w'.ownsRow (w.alloc (.cells #[.map (some b)] 58)).heap.size 3 1 v ss.length ((ss.mergeSort (fun x y => decide (x ≤ y))).map encZ) ∧ (v = .slice none 0 0 ↔ ss = []) ∧ Below (w.alloc (.cells #[.map (some b)] 58)).heap.size (w.alloc (.cells #[.map (some b)] 58)) w' := by
  refine (callsIn_wide (n := 5)).1 ?_
  have hbl := World.ownsMap.lt hown
  have hseq : SeqGives Fence.wide 2 Tryz.prog 85 #[.pointer (some ⟨w.heap.size, 0, none⟩)] encZ (fun ss => ss.Perm (intKeys D0)) (Maps.size D0) (w.alloc (.cells #[.map (some b)] 58)) :=
    AnyZI.keys_gives (ρ := Tryz.keysA_ren) { Tryz.keysA with } Fence.wide _ trivial rfl (by omega) w.heap.size b nn D0 _ (by simp) (by simp) (by
      obtain ⟨es, clock, hb, Ft, hs, hD⟩ := hown
      exact ⟨es, clock, (Below.heap_alloc _ _ b hbl).trans hb, Ft, hs, hD⟩)
  exact AnyZI.sorted_in Tryz.sortedA Fence.wide 5 trivial trivial trivial trivial rfl (by omega) (sorts_any _) (enters_of Tryz.func84 (by kernel_rfl) rfl) 85 #[.pointer (some ⟨w.heap.size, 0, none⟩)] trivial (enters_of Tryz.func85 (by kernel_rfl) rfl) _ _ (by unfold maxLen; omega) (by omega) _ hseq
set_option maxHeartbeats 1000000 in
theorem rib_hops {w : World} {r : Nat} {S : Nat → Prop} {n h : Int} {L : List Pr} {most : Nat} (H : RibS w r S n h L most) : Calls Tryz.prog 30 #[.pointer (some ⟨r, 0, none⟩)] w (IntsPost w (hopS L)) := by
  obtain ⟨t, m, S0, D, HA, hI, rfl⟩ := H
  obtain ⟨-, c1, -, -⟩ := HA.cells
  have hsz : Maps.size D ≤ 100000 := by
    rw [HA.uses.size]
    have := hI.like
    have := hI.h0
    omega
  have cS := sorted_calls w HA.map hsz
  have hpm := dd_perm HA.map HA.uses
  have CS := Lib.hid cS
  have HPM := Lib.hid hpm
  clear cS hpm HA hI
  go_enter Tryz.func30, Tryz.ntmps30
  go_wp2_with fail
  refine (keys_calls (some m) _).mono ?_
  rintro e w1 ⟨rfl, rfl⟩
  go_wp2_with fail
  refine CS.out.mono ?_
  rintro e w2 ⟨v, ss, rfl, hp, hrow, -, hb⟩
  have hms : ss.mergeSort leI = hopS L := mergeSort_of_perm_i (hp.trans HPM.out.symm)
  have hle : ss.length = (hopS L).length := by rw [← hms, List.length_mergeSort]
  have hr2 : w2.ownsRow w.heap.size 3 1 v (hopS L).length ((hopS L).map encZ) := by
    rw [← hle, ← hms]
    exact own_base hrow (by simp)
  have b2 : Below w.heap.size w w2 := ((Below.refl _ w).alloc (Nat.le_refl _) _).trans (hb.mono (by simp))
  have HR2 := Lib.hid hr2
  obtain ⟨A2, c2, rfl, -⟩ := own_val hr2
  clear hrow hr2 hb hp hms hle
  go_wp2
  go_ret
  exact ⟨_, rfl, HR2.out, b2⟩

end Go.Proofs.YtcbfppangiopeaaGreat

namespace Go.Proofs.YtcbfppangiopeaaGreat
open Go.RowKit Go.Maps
set_option maxRecDepth 100000

theorem hop_mem {L : List Pr} {x : Pr} (h : x ∈ L) : x.v ∈ hopS L := by
  unfold hopS
  rw [List.mem_mergeSort, mem_dd]
  exact List.mem_map.2 ⟨x, h, rfl⟩
theorem dd_len : ∀ l : List Int, (ddL l).length ≤ l.length := by
  intro l
  induction l with
  | nil => exact Nat.le_refl _
  | cons y r ih =>
    unfold ddL
    split <;> simp <;> omega
theorem hop_len (L : List Pr) : (hopS L).length ≤ L.length := by
  unfold hopS
  rw [List.length_mergeSort]
  have := dd_len (hopsL L)
  have e : (hopsL L).length = L.length := by unfold hopsL; simp
  omega
theorem hop_rise (L : List Pr) {k : Nat} (hk : k + 1 < (hopS L).length) : (hopS L)[k] < (hopS L)[k + 1] := by
  have hs : (hopS L).Pairwise fun x y => leI x y = true := by
    unfold hopS
    exact List.pairwise_mergeSort (le := leI) (fun a b c h1 h2 => by simp only [leI, decide_eq_true_eq] at h1 h2 ⊢; omega) (fun a b => by simp only [leI, Bool.or_eq_true, decide_eq_true_eq]; omega) _
  have hn : (hopS L).Nodup := by
    unfold hopS
    exact (List.mergeSort_perm _ _).nodup_iff.2 (nodup_dd _)
  have h1 := List.pairwise_iff_getElem.1 hs k (k + 1) (by omega) hk (by omega)
  have h2 := List.pairwise_iff_getElem.1 hn k (k + 1) (by omega) hk (by omega)
  simp only [leI, decide_eq_true_eq] at h1
  omega

end Go.Proofs.YtcbfppangiopeaaGreat

namespace Go.Proofs.YtcbfppangiopeaaGreat
open Go.RowKit
set_option maxRecDepth 100000

def natE (i : Nat) : List Value := [.int .i64 (i : Int)]
def KN : Kd Nat := ⟨natE, 1, by decide, fun _ => rfl, fun x u h => by simp [natE] at h; subst h; rfl⟩
theorem Kd.row_set {α : Type} (K : Kd α) (l : List α) (i : Nat) (h : i < l.length) (x : α) (j : Nat) (u : Value) (hx : (K.enc l[i]).set j u = K.enc x) (hj : j < K.k) : (K.row l).set (i * K.k + j) u = K.row (l.set i x) := by
  induction l generalizing i with
  | nil => cases h
  | cons r l ih =>
    rw [K.row_cons]
    cases i with
    | zero =>
      simp only [List.getElem_cons_zero] at hx
      rw [List.set_append_left _ _ (by rw [K.len]; omega), List.set_cons_zero, K.row_cons, ← hx, Nat.zero_mul, Nat.zero_add]
    | succ i =>
      simp only [List.getElem_cons_succ] at hx
      have e : (i + 1) * K.k + j - (K.enc r).length = i * K.k + j := by rw [K.len, Nat.add_mul]; omega
      rw [List.set_append_right _ _ (by rw [K.len, Nat.add_mul]; omega), e, ih i (by simpa using h) hx, List.set_cons_succ, K.row_cons]
theorem KN_ty : KN.Ty 3 76 := Kd.ty_of info_int (by omega) rfl Tryz.underlying76
theorem KN_cut {w : World} {base g cap n m : Nat} {e : TypeId} {l : List Nat} (h : w.ownsRow base e 1 (.slice (some ⟨g, 0, none⟩) n cap) n (KN.row l)) (hn : n = l.length) (hm : m ≤ n) : w.ownsRow base e 1 (.slice (some ⟨g, 0, none⟩) m cap) m (KN.row (l.take m)) := by
  subst hn
  have := own_cut h hm
  have e : (KN.row l).take m = KN.row (l.take m) := by
    have e1 : l = l.take m ++ l.drop m := (List.take_append_drop m l).symm
    have e2 : KN.row l = KN.row (l.take m) ++ KN.row (l.drop m) := by rw [← KN.row_append, ← e1]
    have e3 : (KN.row (l.take m)).length = m := by rw [KN.row_len, List.length_take]; simp only [KN]; omega
    rw [e2]
    rw [List.take_append_of_le_length (by omega), List.take_of_length_le (by omega)]
  rw [e] at this
  exact this
/-- A fresh row of numbers. -/
def NatsPost (w : World) (l : List Nat) (e : Ending) (w' : World) : Prop := ∃ A c, e = .returned (.slice A l.length c) ∧ w'.ownsRow w.heap.size 3 1 (.slice A l.length c) l.length (KN.row l) ∧ Below w.heap.size w w'
/-- Rows of numbers. -/
def intE (i : Int) : List Value := [.int .i64 i]
def KI : Kd Int := ⟨intE, 1, by decide, fun _ => rfl, fun x u h => by simp [intE] at h; subst h; rfl⟩
theorem KI_ty : KI.Ty 3 76 := Kd.ty_of info_int (by omega) rfl Tryz.underlying76
theorem KI_cell {w : World} {base q n cap : Nat} {l : List Int} (h : w.ownsRow base 3 1 (.slice (some ⟨q, 0, none⟩) n cap) n (KI.row l)) (hn : n = l.length) (j : Nat) (hj : j < l.length) : w.cell? ⟨q, j, none⟩ = some (.int .i64 l[j]) ∧ w.frozen? ⟨q, j, none⟩ = false := by
  subst hn
  refine ⟨?_, h.frozenAt j⟩
  rw [h.cellAt j (by omega)]
  have := KI.row_at l j hj 0 (by decide)
  rw [show j * KI.k + 0 = j from by simp [KI]] at this
  exact this
theorem KI_set {w : World} {base q n cap : Nat} {l : List Int} (h : w.ownsRow base 3 1 (.slice (some ⟨q, 0, none⟩) n cap) n (KI.row l)) (j : Nat) (hj : j < l.length) (x : Int) : (w.setCell ⟨q, j, none⟩ (.int .i64 x)).ownsRow base 3 1 (.slice (some ⟨q, 0, none⟩) n cap) n (KI.row (l.set j x)) := by
  have := (h.stored j (.int .i64 x)).1
  have e := KI.row_set l j hj x 0 (.int .i64 x) rfl (by decide)
  rw [show j * KI.k + 0 = j from by simp [KI]] at e
  rw [e] at this
  exact this
def boolE (b : Bool) : List Value := [.bool b]
def KB : Kd Bool := ⟨boolE, 1, by decide, fun _ => rfl, fun x u h => by simp [boolE] at h; subst h; rfl⟩
theorem info_bool : (Tryz.prog.info? 4).map (fun i => (i.zero, i.size, i.bytes)) = some (some (.bool false), 1, 1) := by kernel_rfl
theorem KN_rd {w : World} {A : Option Addr} {l : List Nat} (h : KN.Rd w A l) {k : Nat} (hk : k < l.length) : ∃ g off, A = some ⟨g, off, none⟩ ∧ g < w.heap.size ∧ w.cell? ⟨g, off + k, none⟩ = some (.int .i64 (l[k] : Int)) := by
  obtain ⟨g, off, e, hg, hc⟩ := h (by rintro rfl; cases hk)
  refine ⟨g, off, e, hg, ?_⟩
  have := hc k hk 0 (by decide)
  rw [show off + k * KN.k + 0 = off + k from by simp [KN]] at this
  exact this
theorem NatsPost.rd {w' : World} {l : List Nat} {A : Option Addr} {c : Nat} {base : Nat} (h : w'.ownsRow base 3 1 (.slice A l.length c) l.length (KN.row l)) : KN.Rd w' A l ∧ ∀ a, A = some a → base ≤ a.block ∧ a.block < w'.heap.size := by
  obtain ⟨A', c', e, -, h1, h2⟩ := KN.rd_own h rfl
  simp only [Value.slice.injEq, true_and] at e
  obtain ⟨rfl, -⟩ := e
  exact ⟨h1, fun a ha => ⟨(h2 a ha).1, (h2 a ha).2.1⟩⟩
theorem Kd.rd1 {α : Type} {K : Kd α} (h1 : K.k = 1) {w : World} {A : Option Addr} {l : List α} (h : K.Rd w A l) {k : Nat} (hk : k < l.length) : ∃ g off, A = some ⟨g, off, none⟩ ∧ g < w.heap.size ∧ w.cell? ⟨g, off + k, none⟩ = (K.enc l[k])[0]? := by
  obtain ⟨g, off, e, hg, hc⟩ := h (by rintro rfl; cases hk)
  refine ⟨g, off, e, hg, ?_⟩
  have := hc k hk 0 K.pos
  rw [h1, show off + k * 1 + 0 = off + k from by omega] at this
  exact this
theorem own_nil {w : World} {base : Nat} {e : TypeId} {size n c : Nat} {A : Option Addr} {xs : List Value} (h : w.ownsRow base e size (.slice A n c) n xs) : A = none → n = 0 ∧ c = 0 := by
  rintro rfl
  rcases h.2 with ⟨e1, -⟩ | ⟨g, cap, cur, e1, -⟩
  · simp at e1
    exact e1
  · simp at e1
theorem own_at {w : World} {base : Nat} {e : TypeId} {size n c : Nat} {A : Option Addr} {xs : List Value} (h : w.ownsRow base e size (.slice A n c) n xs) {b : Nat} (hb : A.map (·.block) = some b) : base ≤ b ∧ b < w.heap.size ∧ (Value.slice A n c).ownBlock = some b := by
  rcases h.2 with ⟨e1, -⟩ | ⟨g, cap, cur, e1, e2, e3, -⟩
  · simp at e1
    rw [e1.1] at hb
    cases hb
  · simp only [Value.slice.injEq, true_and] at e1
    obtain ⟨rfl, rfl⟩ := e1
    simp at hb
    subst hb
    exact ⟨e2, lt_of_block e3, rfl⟩
theorem Kd.own_set1 {α : Type} {K : Kd α} (h1 : K.k = 1) {w : World} {E : TypeId} {base q n cap : Nat} {l : List α} (h : w.ownsRow base E 1 (.slice (some ⟨q, 0, none⟩) n cap) n (K.row l)) (j : Nat) (hj : j < l.length) (x : α) (u : Value) (hx : K.enc x = [u]) : (w.setCell ⟨q, j, none⟩ u).ownsRow base E 1 (.slice (some ⟨q, 0, none⟩) n cap) n (K.row (l.set j x)) := by
  have := (h.stored j u).1
  have e := K.row_set l j hj x 0 u (by
    have hl := K.len l[j]
    rw [h1] at hl
    obtain ⟨y, hy⟩ := List.length_eq_one_iff.1 hl
    rw [hy, hx]
    rfl) (by omega)
  rw [h1, show j * 1 + 0 = j from by omega] at e
  rw [e] at this
  exact this
theorem ob_slice {A : Option Addr} {n n' c c' : Nat} : (Value.slice A n c).ownBlock = (Value.slice A n' c').ownBlock := by
  cases A with
  | none => rfl
  | some a => rfl
theorem four {w : World} {b : Nat} {x0 x1 x2 x3 : Value} {e : TypeId} (h : w.heap[b]? = some (.cells #[x0, x1, x2, x3] e (0, 0))) :
    w.cell? ⟨b, 0, none⟩ = some x0 ∧ w.cell? ⟨b, 1, none⟩ = some x1 ∧ w.cell? ⟨b, 2, none⟩ = some x2 ∧ w.cell? ⟨b, 3, none⟩ = some x3 ∧ w.frozen? ⟨b, 0, none⟩ = false ∧ w.frozen? ⟨b, 1, none⟩ = false ∧ w.frozen? ⟨b, 2, none⟩ = false ∧ w.frozen? ⟨b, 3, none⟩ = false ∧ b < w.heap.size :=
  ⟨by rw [cell_row h]; rfl, by rw [cell_row h]; rfl, by rw [cell_row h]; rfl, by rw [cell_row h]; rfl, frozen_of_row _ _ _ _ _ h, frozen_of_row _ _ _ _ _ h, frozen_of_row _ _ _ _ _ h, frozen_of_row _ _ _ _ _ h, lt_of_block h⟩
theorem below_put4 {B b : Nat} {w w1 : World} {y0 y1 y2 y3 : Value} (h : Below B w w1) (hb : B ≤ b) : Below B w ((((w1.setCell ⟨b, 0, none⟩ y0).setCell ⟨b, 1, none⟩ y1).setCell ⟨b, 2, none⟩ y2).setCell ⟨b, 3, none⟩ y3) :=
  (((h.setCell (p := ⟨b, 0, none⟩) hb _).setCell (p := ⟨b, 1, none⟩) hb _).setCell (p := ⟨b, 2, none⟩) hb _).setCell (p := ⟨b, 3, none⟩) hb _
theorem own_made {w : World} {g N base : Nat} {E : TypeId} {z : Value} (hg : w.heap[g]? = some (.cells (madeCells #[z] N) E (0, 0))) (hN : N ≤ 1024) (hb : base ≤ g) : w.ownsRow base E 1 (.slice (some ⟨g, 0, none⟩) N N) N (List.replicate N z) := by
  refine ⟨by simp, .inr ⟨g, N, _, rfl, hb, hg, Nat.le_refl _, by simp only [maxLen]; omega, by rw [size_madeCells, Nat.mul_one], ?_⟩⟩
  rw [toList_madeCells_one, Nat.mul_one, List.take_of_length_le (by simp)]
theorem flat_const (v : Value) (l : List Nat) : l.flatMap (fun _ => [v]) = List.replicate l.length v := by
  induction l with
  | nil => rfl
  | cons a l ih => rw [List.flatMap_cons, ih]; rfl
end Go.Proofs.YtcbfppangiopeaaGreat

namespace Go.Proofs.YtcbfppangiopeaaGreat
open Go.RowKit Go.Maps Go.Sort
set_option maxRecDepth 100000

theorem strict_eq : ∀ (a b : List Int), a.Pairwise (· < ·) → b.Pairwise (· < ·) → (∀ x, x ∈ a ↔ x ∈ b) → a = b := by
  intro a
  induction a with
  | nil =>
    intro b _ _ h
    cases b with
    | nil => rfl
    | cons y b => exact absurd ((h y).2 (by simp)) (by simp)
  | cons x a ih =>
    intro b ha hb h
    cases b with
    | nil => exact absurd ((h x).1 (by simp)) (by simp)
    | cons y b =>
      have ha' := List.pairwise_cons.1 ha
      have hb' := List.pairwise_cons.1 hb
      have hxy : x = y := by
        rcases List.mem_cons.1 ((h x).1 (by simp)) with e | e
        · exact e
        · rcases List.mem_cons.1 ((h y).2 (by simp)) with e2 | e2
          · exact e2.symm
          · have := hb'.1 x e
            have := ha'.1 y e2
            omega
      subst hxy
      congr 1
      refine ih b ha'.2 hb'.2 fun z => ⟨fun hz => ?_, fun hz => ?_⟩
      · rcases List.mem_cons.1 ((h z).1 (List.mem_cons_of_mem _ hz)) with e | e
        · have := ha'.1 z hz
          omega
        · exact e
      · rcases List.mem_cons.1 ((h z).2 (List.mem_cons_of_mem _ hz)) with e | e
        · have := hb'.1 z hz
          omega
        · exact e
theorem hopS_strict (L : List Pr) : (hopS L).Pairwise (· < ·) := by
  have hs : (hopS L).Pairwise fun x y => leI x y = true := by
    unfold hopS
    exact List.pairwise_mergeSort (le := leI) (fun a b c h1 h2 => by simp only [leI, decide_eq_true_eq] at h1 h2 ⊢; omega) (fun a b => by simp only [leI, Bool.or_eq_true, decide_eq_true_eq]; omega) _
  have hn : (hopS L).Nodup := by
    unfold hopS
    exact (List.mergeSort_perm _ _).nodup_iff.2 (nodup_dd _)
  refine List.pairwise_iff_getElem.2 fun i j hi hj hij => ?_
  have h1 := List.pairwise_iff_getElem.1 hs i j hi hj hij
  have h2 := List.pairwise_iff_getElem.1 hn i j hi hj hij
  simp only [leI, decide_eq_true_eq] at h1
  omega
theorem mem_hopS {L : List Pr} {v : Int} : v ∈ hopS L ↔ ∃ x, x ∈ L ∧ x.v = v := by
  unfold hopS
  rw [List.mem_mergeSort, mem_dd]
  unfold hopsL
  simp
/-- So far: those that are told, rising, and the next one. -/
structure Told (L : List Pr) (O : List Int) (b : Int) : Prop where
  strict : O.Pairwise (· < ·)
  mem : ∀ v, v ∈ O → (∃ x, x ∈ L ∧ x.v = v) ∧ (b = -1 ∨ v < b)
  all : ∀ x, x ∈ L → x.v ∈ O ∨ (0 ≤ b ∧ b ≤ x.v)
  nxt : b = -1 ∨ (0 ≤ b ∧ ∃ x, x ∈ L ∧ x.v = b)
theorem told_start {L : List Pr} (hv : ∀ x, x ∈ L → 0 ≤ x.v) : Told L [] (lstL L (-1)) := by
  have h := lst_spec L hv (-1) L.length (Nat.le_refl _)
  rw [List.take_of_length_le (Nat.le_refl _)] at h
  show Told L [] (lstK L (-1) L.length)
  generalize lstK L (-1) L.length = b at h
  refine ⟨List.Pairwise.nil, by simp, fun x hx => ?_, ?_⟩
  · have h0 := hv x hx
    rcases h with ⟨-, h2⟩ | ⟨-, -, h2, h3⟩
    · have := h2 x hx
      omega
    · exact .inr ⟨h2, h3 x hx (by omega)⟩
  · rcases h with ⟨h1, -⟩ | ⟨⟨x, h1, h2⟩, -, h3, -⟩
    · exact .inl h1
    · exact .inr ⟨h3, x, h1, h2⟩
theorem told_next {L : List Pr} (hv : ∀ x, x ∈ L → 0 ≤ x.v) {O : List Int} {b : Int} (H : Told L O b) (hb : 0 ≤ b) : Told L (O ++ [b]) (lstL L b) := by
  have h := lst_spec L hv b L.length (Nat.le_refl _)
  rw [List.take_of_length_le (Nat.le_refl _)] at h
  show Told L (O ++ [b]) (lstK L b L.length)
  generalize lstK L b L.length = d at h
  obtain ⟨x0, hx0, hb0⟩ : ∃ x, x ∈ L ∧ x.v = b := by
    rcases H.nxt with e | ⟨-, e⟩
    · omega
    · exact e
  refine ⟨?_, fun v hm => ?_, fun x hx => ?_, ?_⟩
  · refine List.pairwise_append.2 ⟨H.strict, by simp, fun v hm y hy => ?_⟩
    rw [List.mem_singleton] at hy
    subst hy
    rcases (H.mem v hm).2 with e | e
    · omega
    · exact e
  · rcases List.mem_append.1 hm with e | e
    · refine ⟨(H.mem v e).1, ?_⟩
      rcases (H.mem v e).2 with e2 | e2
      · omega
      · rcases h with ⟨h1, -⟩ | ⟨-, h2, -, -⟩
        · exact .inl h1
        · exact .inr (by omega)
    · rw [List.mem_singleton] at e
      subst e
      refine ⟨⟨x0, hx0, hb0⟩, ?_⟩
      rcases h with ⟨h1, -⟩ | ⟨-, h2, -, -⟩
      · exact .inl h1
      · exact .inr h2
  · rcases H.all x hx with e | ⟨e1, e2⟩
    · exact .inl (List.mem_append_left _ e)
    · by_cases hxb : x.v = b
      · exact .inl (List.mem_append_right _ (by simp [hxb]))
      · rcases h with ⟨-, h2⟩ | ⟨-, -, h3, h4⟩
        · have := h2 x hx
          omega
        · exact .inr ⟨h3, h4 x hx (by omega)⟩
  · rcases h with ⟨h1, -⟩ | ⟨⟨x, h1, h2⟩, -, h3, -⟩
    · exact .inl h1
    · exact .inr ⟨h3, x, h1, h2⟩
theorem told_end {L : List Pr} {O : List Int} {b : Int} (H : Told L O b) (hb : b < 0) : O = hopS L := by
  refine strict_eq _ _ H.strict (hopS_strict L) fun v => ?_
  rw [mem_hopS]
  refine ⟨fun hm => (H.mem v hm).1, ?_⟩
  rintro ⟨x, hx, rfl⟩
  rcases H.all x hx with e | ⟨e, -⟩
  · exact e
  · omega
theorem told_len {L : List Pr} {O : List Int} {b : Int} (H : Told L O b) (hb : 0 ≤ b) : O.length < L.length := by
  obtain ⟨x0, hx0, hb0⟩ : ∃ x, x ∈ L ∧ x.v = b := by
    rcases H.nxt with e | ⟨-, e⟩
    · omega
    · exact e
  have hnd : (O ++ [b]).Nodup := by
    refine List.nodup_append.2 ⟨H.strict.imp (fun h => by omega), by simp, fun v hm y hy => ?_⟩
    rw [List.mem_singleton] at hy
    subst hy
    rcases (H.mem v hm).2 with e | e
    · omega
    · omega
  have hsub : (O ++ [b]) ⊆ L.map (·.v) := fun v hm => by
    rcases List.mem_append.1 hm with e | e
    · obtain ⟨x, hx, h⟩ := (H.mem v e).1
      exact List.mem_map.2 ⟨x, hx, h⟩
    · rw [List.mem_singleton] at e
      subst e
      exact List.mem_map.2 ⟨x0, hx0, hb0⟩
  have := List.Nodup.length_le_of_subset hnd hsub
  simp at this
  omega
theorem KI_encZ (l : List Int) : KI.row l = l.map Go.encZ := by
  induction l with
  | nil => rfl
  | cons x l ih => rw [KI.row_cons, ih]; rfl
def slN (v : Value) : Nat := match v with
  | .slice _ n _ => n
  | _ => 0
section
variable {w : World} {A : Option Addr} {c : Nat} {L : List Pr}
set_option maxHeartbeats 2000000 in
theorem khops6_any (hr : RdQ w A L) (hl : L.length ≤ 10000) (hv : ∀ x, x ∈ L → 0 ≤ x.v) (most n h : Int) : Calls Tryz.prog 31 #[.agg #[.slice A L.length c, .int .i64 most, .int .i64 n, .int .i64 h]] w (IntsPost w (hopS L)) := by
  have HRD := Lib.hid hr
  have HV := Lib.hid hv
  have cl := fun W (hr : RdQ W A L) m => kleast_any (c := c) hr hl most n h m
  have CL := Lib.hid cl
  have hT0 := told_start hv
  have HT0 := Lib.hid hT0
  clear hr hv cl hT0
  go_enter Tryz.func31, Tryz.ntmps31
  go_wp2_with fail
  generalize hW : w.alloc _ = W
  have hB : Below w.heap.size w W := by subst hW; go_grown
  have x1 : W.heap[w.heap.size]? = some (.cells #[.slice A L.length c, .int .i64 most, .int .i64 n, .int .i64 h] 35 (0, 0)) := by subst hW; exact hp_new rfl
  obtain ⟨r0, r1, r2, r3, -, -, -, -, rz⟩ := row4_heap x1
  have HB := Lib.hid hB
  have X1 := Lib.hid x1
  have zW := hB.size
  clear hW x1 hB
  go_wp2_with fail
  refine (CL.out _ (HRD.out.keep (B := w.heap.size) HB.out (Nat.le_refl _)) (-1)).mono ?_
  rintro e w1 ⟨rfl, hw1⟩
  have x1 := (hw1.block _ (lt_of_block X1.out)).trans X1.out
  have HB1 := Lib.hid (HB.out.trans (hw1.mono zW))
  have zW1 := HB1.out.size
  have X2 := Lib.hid x1
  clear hw1 x1 r0 r1 r2 r3 rz X1 HB zW
  generalize lstL L (-1) = b0 at HT0 ⊢
  go_wp2_with fail
  go_loopw [3, 4] (fun o i wr => ∃ (O : List Int) (b : Int) (B : Option Addr) (d j : Nat), Told L O b ∧ j = O.length ∧ o = .slice B j d ∧ i = .int .i64 b ∧ wr.ownsRow w1.heap.size 3 1 (.slice B j d) j (KI.row O) ∧ Below w1.heap.size w1 wr) (fun o _ _ => L.length - slN o)
  case atStart => exact ⟨[], b0, none, 0, 0, HT0.out, rfl, rfl, rfl, World.ownsRow_nil _ _ _ _, Below.refl _ _⟩
  case round =>
    obtain ⟨O, b, B, d, j, hT, hj, rfl, rfl, ho, hb⟩ := hrel
    have HT := Lib.hid hT
    have HO := Lib.hid ho
    have HBB := Lib.hid hb
    have HJ := Lib.hid hj
    have zr := hb.size
    by_cases hb0 : 0 ≤ b
    · have t1 : decide (0 ≤ b) = true := decide_eq_true hb0
      have hjl : j < L.length := by rw [hj]; exact told_len hT hb0
      have HN := Lib.hid (told_next HV.out hT hb0)
      clear hT hj ho hb
      go_wp2_with (
        at_builtin
        refine Kd.wpList_one KI_ty rfl (.tmp 12) (.tmp 14) rfl w1.heap.size _ j O HJ.out (by rfl) (HO.out.alloc _) wr.heap.size b (by rfl) (hp_new rfl) (by omega) (by simp; omega) ?_
        intro A' c' w7 hG
        have HG := Lib.hid hG
        have hb7 := (HBB.out.alloc zr (.cells #[.int .i64 b] 3)).trans hG.2.2.2
        have HB7 := Lib.hid hb7
        have x7 := (hb7.block _ (lt_of_block X2.out)).trans X2.out
        obtain ⟨r0, r1, r2, r3, -, -, -, -, rz⟩ := row4_heap x7
        clear hG hb7 x7
        )
      refine (CL.out _ (HRD.out.keep (B := w.heap.size) (HB1.out.trans (HB7.out.mono zW1)) (Nat.le_refl _)) b).mono ?_
      rintro e w8 ⟨rfl, hw8⟩
      have HO8 := Lib.hid (own_block HG.out.1 (fun b _ hl => hw8.block b hl))
      have HB8 := Lib.hid (HB7.out.trans (hw8.mono HB7.out.size))
      generalize lstL L b = b2 at HN ⊢
      clear hw8 r0 r1 r2 r3 rz HG HB7
      go_wp2
      go_roundw
      case rel => exact ⟨O ++ [b], b2, A', c', j + 1, HN.out, by simp [HJ.out], rfl, rfl, HO8.out, HB8.out⟩
      case measure => simp [slN]; omega
    · have t1 : decide (0 ≤ b) = false := decide_eq_false hb0
      have he := told_end hT (by omega)
      have HE := Lib.hid he
      clear hT ho hb he
      go_wp2
      go_ret
      have hO := HO.out
      have hj := HJ.out
      subst hj
      rw [← HE.out]
      refine ⟨_, rfl, ?_, HB1.out.trans (HBB.out.mono zW1)⟩
      rw [← KI_encZ]
      exact own_low hO zW1
end

end Go.Proofs.YtcbfppangiopeaaGreat

namespace Go.Proofs.YtcbfppangiopeaaGreat
open Go.RowKit Go.Maps
set_option maxRecDepth 100000

theorem int_row {w : World} {base n : Nat} {v : Value} {l : List Int} (h : w.ownsRow base 3 1 v n (l.map Go.encZ)) (hn : n = l.length) {k : Nat} (hk : k < l.length) : ∃ g c, v = .slice (some ⟨g, 0, none⟩) n c ∧ base ≤ g ∧ g < w.heap.size ∧ w.cell? ⟨g, k, none⟩ = some (.int .i64 l[k]) := by
  obtain ⟨g, cap, rfl, hb, hlt⟩ := h.form (by omega)
  refine ⟨g, cap, rfl, hb, hlt, ?_⟩
  rw [h.cellAt k (by omega), List.getElem?_map, List.getElem?_eq_getElem hk]
  rfl
set_option maxHeartbeats 2000000 in
theorem ints_yes (b1 b2 : Nat) (v1 v2 : Value) (l : List Int) (w : World) (h1 : w.ownsRow b1 3 1 v1 l.length (l.map Go.encZ)) (h2 : w.ownsRow b2 3 1 v2 l.length (l.map Go.encZ)) (hb : l.length ≤ 1000000000) :
    Calls Tryz.prog 29 #[v1, v2] w fun e w' => e = .returned (.bool true) ∧ Below w.heap.size w w' := by
  have H1 := Lib.hid h1
  have H2 := Lib.hid h2
  obtain ⟨A1, c1, rfl, -⟩ := own_val h1
  obtain ⟨A2, c2, rfl, -⟩ := own_val h2
  clear h1 h2
  go_enter Tryz.func29, Tryz.ntmps29
  go_wp2_with fail
  go_loopw [5] (fun i wr => ∃ k : Nat, k ≤ l.length ∧ i = .int .i64 k ∧ Below w.heap.size w wr) (fun i _ => l.length - (RowKit.intOf i).toNat)
  case atStart => exact ⟨0, Nat.zero_le _, rfl, Below.refl _ _⟩
  case round =>
    obtain ⟨k, hk, rfl, hB⟩ := hrel
    by_cases hlt : k < l.length
    · have hlt' : (k : Int) < (l.length : Int) := by omega
      have hk0 : (0 : Int) ≤ (k : Int) := by omega
      have hk9 : (k : Int) + 1 ≤ 1000000000 := by omega
      obtain ⟨g, cg, eg, -, hg, a0⟩ := int_row (own_fresh H1.out hB) rfl hlt
      simp only [Value.slice.injEq, true_and] at eg
      obtain ⟨rfl, rfl⟩ := eg
      obtain ⟨g', cg', eg', -, hg', b0⟩ := int_row (own_fresh H2.out hB) rfl hlt
      simp only [Value.slice.injEq, true_and] at eg'
      obtain ⟨rfl, rfl⟩ := eg'
      generalize l[k] = r at *
      obtain ⟨W, rfl⟩ : ∃ W, W = wr := ⟨_, rfl⟩
      have hz := hB.size
      have A0 := fun x : Later W.heap.size W => (x.cell (p := ⟨g, k, none⟩) hg).trans a0
      have B0 := fun x : Later W.heap.size W => (x.cell (p := ⟨g', k, none⟩) hg').trans b0
      clear a0 b0
      go_wp2_with fail
      refine region_later W.heap.size (by kernel_rfl) (by kernel_rfl) ?_
      repeat (go_big_quiet_step (fail))
      refine wpQuiet_nil ?_
      intro x
      have hx : Below w.heap.size w x.at := hB.trans (x.below.mono hz)
      clear A0 B0
      generalize x.at = w2 at *
      clear x
      go_wp2_with fail
      refine ⟨⟨k + 1, by omega, by go_num, hx⟩, by simp [RowKit.intOf]; omega⟩
    · obtain rfl : k = l.length := by omega
      have hlt' : ¬ (l.length : Int) < (l.length : Int) := by omega
      go_wp2
      go_ret
      exact ⟨rfl, hB⟩
theorem rdo_err {n h : Int} {x : Ac} {L : List Pr} {M : Nat} (he : rdoE n h x L ≠ 0) : rdoQ n h x L = L ∧ rdoM n h x L M = M := by
  unfold rdoE at he
  unfold rdoQ rdoM
  cases hx : x.out
  · rw [hx] at he
    simp only [Bool.false_eq_true, if_false] at he ⊢
    unfold addQ addM
    rw [if_neg he, if_neg he]
    exact ⟨rfl, rfl⟩
  · rw [hx] at he
    simp only [if_true] at he ⊢
    refine ⟨?_, trivial⟩
    unfold delE at he
    unfold delQ
    by_cases hp : psane x.p = true
    · rw [if_pos hp] at he ⊢
      cases hl : lk L x.p with
      | none => exact del_none hl
      | some v => rw [hl] at he; simp at he
    · rw [if_neg hp]
theorem rdo_bad (n h : Int) (x : Ac) (L : List Pr) : (rdoE n h x L == 1) = !psane x.p := by
  unfold rdoE delE addE
  cases hp : psane x.p
  · simp only [Bool.false_eq_true, if_false]
    cases x.out <;> rfl
  · simp only [if_true]
    cases x.out
    · simp only [Bool.false_eq_true, if_false]
      split
      · split <;> rfl
      · rfl
    · simp only [if_true]
      split <;> rfl
/-- A thing that is done lies in a block. -/
def OBox (w : World) (b : Nat) (x : Ac) : Prop := w.heap[b]? = some (.cells (ac6 x).toArray 40 (0, 0))
theorem OBox.frm {S : Nat → Prop} {w w' : World} {b : Nat} {x : Ac} (h : OBox w b x) (hf : Frm S w w') (hn : ¬ S b) : OBox w' b x := (hf.block b (lt_of_block h) hn).trans h
theorem OBox.keep {w w' : World} {b : Nat} {x : Ac} (h : OBox w b x) (hf : Below w.heap.size w w') : OBox w' b x := (hf.block b (lt_of_block h)).trans h
theorem OBox.cells {w : World} {b : Nat} {x : Ac} (h : OBox w b x) : w.cell? ⟨b, 0, none⟩ = some (.bool x.out) ∧ w.cell? ⟨b, 1, none⟩ = some (.int .u64 (u x.p.a.hi)) ∧ w.cell? ⟨b, 2, none⟩ = some (.int .u64 (u x.p.a.lo)) ∧ w.cell? ⟨b, 3, none⟩ = some (.bool x.p.a.v6) ∧ w.cell? ⟨b, 4, none⟩ = some (.int .i64 x.p.n) ∧ w.cell? ⟨b, 5, none⟩ = some (.int .i64 x.v) :=
  ⟨by rw [cell_row h]; rfl, by rw [cell_row h]; rfl, by rw [cell_row h]; rfl, by rw [cell_row h]; rfl, by rw [cell_row h]; rfl, by rw [cell_row h]; rfl⟩

end Go.Proofs.YtcbfppangiopeaaGreat

namespace Go.Proofs.YtcbfppangiopeaaGreat
open Go.RowKit Go.Maps
set_option maxRecDepth 100000

theorem keepSO {W w' : World} {bx by' bz bw bp bs : Nat} {xl zg : Pr} {p : Pf} {A : Option Addr} {L : List Pr} {c : Nat} {mo n h : Int} (hb : Below W.heap.size W w') (hx : QBox W bx xl) (hy : QBox W by' xl) (hz : QBox W bz zg) (hw : QBox W bw zg) (hp : PBox W bp p) (hs : VBox W bs A L.length c mo n h) :
    w'.cell? ⟨bx, 0, none⟩ = some (.int .u64 (u xl.p.a.hi)) ∧ w'.cell? ⟨bx, 1, none⟩ = some (.int .u64 (u xl.p.a.lo)) ∧ w'.cell? ⟨bx, 2, none⟩ = some (.bool xl.p.a.v6) ∧ w'.cell? ⟨bx, 3, none⟩ = some (.int .i64 xl.p.n) ∧ w'.cell? ⟨bx, 4, none⟩ = some (.int .i64 xl.v) ∧ w'.cell? ⟨by', 0, none⟩ = some (.int .u64 (u xl.p.a.hi)) ∧ w'.cell? ⟨by', 1, none⟩ = some (.int .u64 (u xl.p.a.lo)) ∧ w'.cell? ⟨by', 2, none⟩ = some (.bool xl.p.a.v6) ∧ w'.cell? ⟨by', 3, none⟩ = some (.int .i64 xl.p.n) ∧ w'.cell? ⟨by', 4, none⟩ = some (.int .i64 xl.v) ∧ w'.cell? ⟨bz, 0, none⟩ = some (.int .u64 (u zg.p.a.hi)) ∧ w'.cell? ⟨bz, 1, none⟩ = some (.int .u64 (u zg.p.a.lo)) ∧ w'.cell? ⟨bz, 2, none⟩ = some (.bool zg.p.a.v6) ∧ w'.cell? ⟨bz, 3, none⟩ = some (.int .i64 zg.p.n) ∧ w'.cell? ⟨bz, 4, none⟩ = some (.int .i64 zg.v) ∧ w'.cell? ⟨bw, 0, none⟩ = some (.int .u64 (u zg.p.a.hi)) ∧ w'.cell? ⟨bw, 1, none⟩ = some (.int .u64 (u zg.p.a.lo)) ∧ w'.cell? ⟨bw, 2, none⟩ = some (.bool zg.p.a.v6) ∧ w'.cell? ⟨bw, 3, none⟩ = some (.int .i64 zg.p.n) ∧ w'.cell? ⟨bw, 4, none⟩ = some (.int .i64 zg.v) ∧ w'.cell? ⟨bp, 0, none⟩ = some (.int .u64 (u p.a.hi)) ∧ w'.cell? ⟨bp, 1, none⟩ = some (.int .u64 (u p.a.lo)) ∧ w'.cell? ⟨bp, 2, none⟩ = some (.bool p.a.v6) ∧ w'.cell? ⟨bp, 3, none⟩ = some (.int .i64 p.n) ∧ w'.cell? ⟨bs, 0, none⟩ = some (.slice A L.length c) ∧ w'.cell? ⟨bs, 1, none⟩ = some (.int .i64 mo) ∧ w'.cell? ⟨bs, 2, none⟩ = some (.int .i64 n) ∧ w'.cell? ⟨bs, 3, none⟩ = some (.int .i64 h) ∧ Below W.heap.size W w' := by
  obtain ⟨a0, a1, a2, a3, a4, -⟩ := hx.keep hb
  obtain ⟨b0, b1, b2, b3, b4, -⟩ := hy.keep hb
  obtain ⟨c0, c1, c2, c3, c4, -⟩ := hz.keep hb
  obtain ⟨d0, d1, d2, d3, d4, -⟩ := hw.keep hb
  obtain ⟨p0, p1, p2, p3, -⟩ := hp.keep hb
  obtain ⟨s0, s1, s2, s3, -⟩ := hs.keep hb
  exact ⟨a0, a1, a2, a3, a4, b0, b1, b2, b3, b4, c0, c1, c2, c3, c4, d0, d1, d2, d3, d4, p0, p1, p2, p3, s0, s1, s2, s3, hb⟩
theorem row5_qbox {w : World} {b : Nat} {x : Pr} {e : TypeId} (h : w.heap[b]? = some (.cells #[.int .u64 (u x.p.a.hi), .int .u64 (u x.p.a.lo), .bool x.p.a.v6, .int .i64 x.p.n, .int .i64 x.v] e (0, 0))) : QBox w b x := by
  obtain ⟨c0, c1, c2, c3, c4, -, -, -, -, -, z⟩ := row5_heap h
  exact ⟨c0, c1, c2, c3, c4, z⟩
set_option maxHeartbeats 8000000 in
theorem same6_any {w : World} {r : Nat} {S : Nat → Prop} {n h : Int} {L : List Pr} {most : Nat} {A : Option Addr} {c : Nat} (HS : RibS w r S n h L most) (hr : RdQ w A L) (hl : L.length ≤ 5000) (p : Pf) (a : Ad) :
    Calls Tryz.prog 9 #[.pointer (some ⟨r, 0, none⟩), .agg #[.slice A L.length c, .int .i64 (most : Int), .int .i64 n, .int .i64 h], .agg #[.int .u64 (u p.a.hi), .int .u64 (u p.a.lo), .bool p.a.v6, .int .i64 p.n], .agg #[.int .u64 (u a.hi), .int .u64 (u a.lo), .bool a.v6]] w fun e w' => e = .returned (.bool true) ∧ Below w.heap.size w w' := by
  have hsr := HS.srt
  have hinv := HS.inv
  have hv : ∀ x, x ∈ L → 0 ≤ x.v := fun x hx => (hinv.hop x hx).1
  have HSR := Lib.hid HS
  have HRD := Lib.hid hr
  have cl := fun W (H : RibS W r S n h L most) => rib_longest H a
  have kl := fun W (hr : RdQ W A L) => klong6_any (c := c) hr hsr (by omega) (most : Int) n h a
  have cg := fun W (H : RibS W r S n h L most) => rib_governs H p
  have kg := fun W (hr : RdQ W A L) => kgov_any (c := c) hr (by omega) (most : Int) n h p
  have cs := fun W (H : RibS W r S n h L most) => rib_size H
  have ks := fun W (hr : RdQ W A L) => ksize_any (c := c) hr hsr (by omega) (most : Int) n h
  have ci : ∀ W, RibS W r S n h L most → Calls Tryz.prog 25 #[.pointer (some ⟨r, 0, none⟩), .agg #[.int .u64 (u p.a.hi), .int .u64 (u p.a.lo), .bool p.a.v6, .int .i64 p.n]] W fun e w' => e = .returned (.bool (insL L p)) ∧ Below W.heap.size W w' := fun W H => rib_inside H p
  have ki := fun W (hr : RdQ W A L) => kins6_any (c := c) hr (by omega) (most : Int) n h p
  have cd := fun W (H : RibS W r S n h L most) => rib_dump H
  have kd := fun W (hr : RdQ W A L) => kdump_any (c := c) hr (by omega) (most : Int) n h
  have ch := fun W (H : RibS W r S n h L most) => rib_hops H
  have kh := fun W (hr : RdQ W A L) => khops6_any (c := c) hr (by omega) hv (most : Int) n h
  have hH : (hopS L).length ≤ 1000000000 := by have := hop_len L; omega
  unfold OptPost at cl kl cg kg
  generalize (longL L a).getD nilPr = xl at cl kl
  generalize (longL L a).isSome = xo at cl kl
  generalize (govL L p).getD nilPr = zg at cg kg
  generalize (govL L p).isSome = zo at cg kg
  generalize nodesL L = NN at cs ks
  generalize insL L p = ii at ci ki
  generalize hopS L = hs at ch kh hH
  have hLb : L.length ≤ 1000000000 := by omega
  have CL := Lib.hid cl
  have KL := Lib.hid kl
  have CG := Lib.hid cg
  have KG := Lib.hid kg
  have CS := Lib.hid cs
  have KS := Lib.hid ks
  have CI := Lib.hid ci
  have KI6 := Lib.hid ki
  have CD := Lib.hid cd
  have KD := Lib.hid kd
  have CH := Lib.hid ch
  have KH := Lib.hid kh
  generalize (most : Int) = mo at *
  clear HS hr hsr hinv hv cl kl cg kg cs ks ci ki cd kd ch kh hl
  go_enter Tryz.func9, Tryz.ntmps9
  go_upto_region 1 with fail
  generalize hW : World.alloc _ _ = W0
  have hB0 : Below w.heap.size w W0 := by subst hW; go_grown
  have hV0 : VBox W0 w.heap.size A L.length c mo n h := by subst hW; exact (by refine ⟨?_, ?_, ?_, ?_, ?_⟩ <;> first | (go_simp; done) | (go_simp <;> rfl) | go_size)
  have hP0 : PBox W0 (w.heap.size + 1) p := by subst hW; exact ⟨by go_simp <;> rfl, by go_simp <;> rfl, by go_simp <;> rfl, by go_simp <;> rfl, by go_simp <;> rfl, by go_simp <;> rfl, by go_simp <;> rfl, by go_simp <;> rfl, by go_size⟩
  have hA0 : ABox W0 (w.heap.size + 1 + 1) a := by subst hW; exact ⟨by go_simp <;> rfl, by go_simp <;> rfl, by go_simp <;> rfl, by go_size⟩
  have Hv0 := Lib.hid hV0
  have Hp0 := Lib.hid hP0
  have Ha0 := Lib.hid hA0
  have B0 := Lib.hid hB0
  clear hV0 hP0 hA0 hB0 hW
  obtain ⟨la0, la1, la2, -⟩ := id Ha0.out
  go_wp2_with fail
  refine (CL.out _ (HSR.out.keep B0.out)).mono ?_
  rintro e u1 ⟨rfl, hw⟩
  clear la0 la1 la2
  have Hv1u := Lib.hid (Hv0.out.keep hw)
  have Hp1u := Lib.hid (Hp0.out.keep hw)
  have Ha1u := Lib.hid (Ha0.out.keep hw)
  have B1u := Lib.hid (B0.out.trans (hw.mono B0.out.size))
  clear Hv0 Hp0 Ha0 B0
  clear hw
  go_upto_region 2 with fail
  generalize hW : World.alloc _ _ = W1
  have hb : Below u1.heap.size u1 W1 := by subst hW; go_grown
  have hq : QBox W1 u1.heap.size xl := by subst hW; exact row5_qbox (hp_new rfl)
  have Hv1 := Lib.hid (Hv1u.out.keep hb)
  have Hp1 := Lib.hid (Hp1u.out.keep hb)
  have Ha1 := Lib.hid (Ha1u.out.keep hb)
  have B1 := Lib.hid (B1u.out.trans (hb.mono B1u.out.size))
  clear Hv1u Hp1u Ha1u B1u
  have Qx1 := Lib.hid hq
  clear hb hq hW
  obtain ⟨la0, la1, la2, -⟩ := id Ha1.out
  obtain ⟨ls0, ls1, ls2, ls3, -⟩ := id Hv1.out
  go_wp2_with fail
  refine (KL.out _ (HRD.out.keep (B := w.heap.size) B1.out (Nat.le_refl _))).mono ?_
  rintro e u2 ⟨rfl, hw⟩
  clear la0 la1 la2 ls0 ls1 ls2 ls3
  have Hv2u := Lib.hid (Hv1.out.keep hw)
  have Hp2u := Lib.hid (Hp1.out.keep hw)
  have Ha2u := Lib.hid (Ha1.out.keep hw)
  have Qx2u := Lib.hid (Qx1.out.keep hw)
  have B2u := Lib.hid (B1.out.trans (hw.mono B1.out.size))
  clear Hv1 Hp1 Ha1 B1 Qx1
  clear hw
  go_upto_region 3 with fail
  generalize hW : World.alloc _ _ = W2
  have hb : Below u2.heap.size u2 W2 := by subst hW; go_grown
  have hq : QBox W2 u2.heap.size xl := by subst hW; exact row5_qbox (hp_new rfl)
  have Hv2 := Lib.hid (Hv2u.out.keep hb)
  have Hp2 := Lib.hid (Hp2u.out.keep hb)
  have Ha2 := Lib.hid (Ha2u.out.keep hb)
  have Qx2 := Lib.hid (Qx2u.out.keep hb)
  have B2 := Lib.hid (B2u.out.trans (hb.mono B2u.out.size))
  clear Hv2u Hp2u Ha2u B2u Qx2u
  have Qy2 := Lib.hid hq
  clear hb hq hW
  obtain ⟨lp0, lp1, lp2, lp3, -⟩ := id Hp2.out
  go_wp2_with fail
  refine (CG.out _ (HSR.out.keep B2.out)).mono ?_
  rintro e u3 ⟨rfl, hw⟩
  clear lp0 lp1 lp2 lp3
  have Hv3u := Lib.hid (Hv2.out.keep hw)
  have Hp3u := Lib.hid (Hp2.out.keep hw)
  have Ha3u := Lib.hid (Ha2.out.keep hw)
  have Qx3u := Lib.hid (Qx2.out.keep hw)
  have Qy3u := Lib.hid (Qy2.out.keep hw)
  have B3u := Lib.hid (B2.out.trans (hw.mono B2.out.size))
  clear Hv2 Hp2 Ha2 B2 Qx2 Qy2
  clear hw
  go_upto_region 4 with fail
  generalize hW : World.alloc _ _ = W3
  have hb : Below u3.heap.size u3 W3 := by subst hW; go_grown
  have hq : QBox W3 u3.heap.size zg := by subst hW; exact row5_qbox (hp_new rfl)
  have Hv3 := Lib.hid (Hv3u.out.keep hb)
  have Hp3 := Lib.hid (Hp3u.out.keep hb)
  have Ha3 := Lib.hid (Ha3u.out.keep hb)
  have Qx3 := Lib.hid (Qx3u.out.keep hb)
  have Qy3 := Lib.hid (Qy3u.out.keep hb)
  have B3 := Lib.hid (B3u.out.trans (hb.mono B3u.out.size))
  clear Hv3u Hp3u Ha3u B3u Qx3u Qy3u
  have Qz3 := Lib.hid hq
  clear hb hq hW
  obtain ⟨lp0, lp1, lp2, lp3, -⟩ := id Hp3.out
  obtain ⟨ls0, ls1, ls2, ls3, -⟩ := id Hv3.out
  go_wp2_with fail
  refine (KG.out _ (HRD.out.keep (B := w.heap.size) B3.out (Nat.le_refl _))).mono ?_
  rintro e u4 ⟨rfl, hw⟩
  clear lp0 lp1 lp2 lp3 ls0 ls1 ls2 ls3
  have Hv4u := Lib.hid (Hv3.out.keep hw)
  have Hp4u := Lib.hid (Hp3.out.keep hw)
  have Ha4u := Lib.hid (Ha3.out.keep hw)
  have Qx4u := Lib.hid (Qx3.out.keep hw)
  have Qy4u := Lib.hid (Qy3.out.keep hw)
  have Qz4u := Lib.hid (Qz3.out.keep hw)
  have B4u := Lib.hid (B3.out.trans (hw.mono B3.out.size))
  clear Hv3 Hp3 Ha3 B3 Qx3 Qy3 Qz3
  clear hw
  go_upto_region 5 with fail
  generalize hW : World.alloc _ _ = W4
  have hb : Below u4.heap.size u4 W4 := by subst hW; go_grown
  have hq : QBox W4 u4.heap.size zg := by subst hW; exact row5_qbox (hp_new rfl)
  have Hv4 := Lib.hid (Hv4u.out.keep hb)
  have Hp4 := Lib.hid (Hp4u.out.keep hb)
  have Ha4 := Lib.hid (Ha4u.out.keep hb)
  have Qx4 := Lib.hid (Qx4u.out.keep hb)
  have Qy4 := Lib.hid (Qy4u.out.keep hb)
  have Qz4 := Lib.hid (Qz4u.out.keep hb)
  have B4 := Lib.hid (B4u.out.trans (hb.mono B4u.out.size))
  clear Hv4u Hp4u Ha4u B4u Qx4u Qy4u Qz4u
  have Qw4 := Lib.hid hq
  clear hb hq hW
  go_wp2_with fail
  refine (CS.out _ (HSR.out.keep B4.out)).mono ?_
  rintro e u5 ⟨rfl, hw⟩
  have Hv5 := Lib.hid (Hv4.out.keep hw)
  have Hp5 := Lib.hid (Hp4.out.keep hw)
  have Ha5 := Lib.hid (Ha4.out.keep hw)
  have Qx5 := Lib.hid (Qx4.out.keep hw)
  have Qy5 := Lib.hid (Qy4.out.keep hw)
  have Qz5 := Lib.hid (Qz4.out.keep hw)
  have Qw5 := Lib.hid (Qw4.out.keep hw)
  have B5 := Lib.hid (B4.out.trans (hw.mono B4.out.size))
  clear Hv4 Hp4 Ha4 B4 Qx4 Qy4 Qz4 Qw4
  clear hw
  obtain ⟨ls0, ls1, ls2, ls3, -⟩ := id Hv5.out
  go_wp2_with fail
  refine (KS.out _ (HRD.out.keep (B := w.heap.size) B5.out (Nat.le_refl _))).mono ?_
  rintro e u6 ⟨rfl, hw⟩
  clear ls0 ls1 ls2 ls3
  have Hv6 := Lib.hid (Hv5.out.keep hw)
  have Hp6 := Lib.hid (Hp5.out.keep hw)
  have Ha6 := Lib.hid (Ha5.out.keep hw)
  have Qx6 := Lib.hid (Qx5.out.keep hw)
  have Qy6 := Lib.hid (Qy5.out.keep hw)
  have Qz6 := Lib.hid (Qz5.out.keep hw)
  have Qw6 := Lib.hid (Qw5.out.keep hw)
  have B6 := Lib.hid (B5.out.trans (hw.mono B5.out.size))
  clear Hv5 Hp5 Ha5 B5 Qx5 Qy5 Qz5 Qw5
  clear hw
  go_upto_region 7 with fail
  obtain ⟨V, rfl⟩ : ∃ V, V = u6 := ⟨_, rfl⟩
  have HSV := Lib.hid (HSR.out.keep B6.out)
  have HRV := Lib.hid (HRD.out.keep (B := w.heap.size) B6.out (Nat.le_refl _))
  obtain ⟨a0, a1, a2, a3, a4, -⟩ := id Qx6.out
  obtain ⟨b0, b1, b2, b3, b4, -⟩ := id Qy6.out
  obtain ⟨c0, c1, c2, c3, c4, -⟩ := id Qz6.out
  obtain ⟨d0, d1, d2, d3, d4, -⟩ := id Qw6.out
  obtain ⟨p0, p1, p2, p3, -⟩ := id Hp6.out
  obtain ⟨s0, s1, s2, s3, -⟩ := id Hv6.out
  clear CL KL CG KG CS KS HSR HRD
  go_region_held3 (fun w' => w'.cell? ⟨u1.heap.size, 0, none⟩ = some (.int .u64 (u xl.p.a.hi)) ∧ w'.cell? ⟨u1.heap.size, 1, none⟩ = some (.int .u64 (u xl.p.a.lo)) ∧ w'.cell? ⟨u1.heap.size, 2, none⟩ = some (.bool xl.p.a.v6) ∧ w'.cell? ⟨u1.heap.size, 3, none⟩ = some (.int .i64 xl.p.n) ∧ w'.cell? ⟨u1.heap.size, 4, none⟩ = some (.int .i64 xl.v) ∧ w'.cell? ⟨u2.heap.size, 0, none⟩ = some (.int .u64 (u xl.p.a.hi)) ∧ w'.cell? ⟨u2.heap.size, 1, none⟩ = some (.int .u64 (u xl.p.a.lo)) ∧ w'.cell? ⟨u2.heap.size, 2, none⟩ = some (.bool xl.p.a.v6) ∧ w'.cell? ⟨u2.heap.size, 3, none⟩ = some (.int .i64 xl.p.n) ∧ w'.cell? ⟨u2.heap.size, 4, none⟩ = some (.int .i64 xl.v) ∧ w'.cell? ⟨u3.heap.size, 0, none⟩ = some (.int .u64 (u zg.p.a.hi)) ∧ w'.cell? ⟨u3.heap.size, 1, none⟩ = some (.int .u64 (u zg.p.a.lo)) ∧ w'.cell? ⟨u3.heap.size, 2, none⟩ = some (.bool zg.p.a.v6) ∧ w'.cell? ⟨u3.heap.size, 3, none⟩ = some (.int .i64 zg.p.n) ∧ w'.cell? ⟨u3.heap.size, 4, none⟩ = some (.int .i64 zg.v) ∧ w'.cell? ⟨u4.heap.size, 0, none⟩ = some (.int .u64 (u zg.p.a.hi)) ∧ w'.cell? ⟨u4.heap.size, 1, none⟩ = some (.int .u64 (u zg.p.a.lo)) ∧ w'.cell? ⟨u4.heap.size, 2, none⟩ = some (.bool zg.p.a.v6) ∧ w'.cell? ⟨u4.heap.size, 3, none⟩ = some (.int .i64 zg.p.n) ∧ w'.cell? ⟨u4.heap.size, 4, none⟩ = some (.int .i64 zg.v) ∧ w'.cell? ⟨w.heap.size + 1, 0, none⟩ = some (.int .u64 (u p.a.hi)) ∧ w'.cell? ⟨w.heap.size + 1, 1, none⟩ = some (.int .u64 (u p.a.lo)) ∧ w'.cell? ⟨w.heap.size + 1, 2, none⟩ = some (.bool p.a.v6) ∧ w'.cell? ⟨w.heap.size + 1, 3, none⟩ = some (.int .i64 p.n) ∧ w'.cell? ⟨w.heap.size, 0, none⟩ = some (.slice A L.length c) ∧ w'.cell? ⟨w.heap.size, 1, none⟩ = some (.int .i64 mo) ∧ w'.cell? ⟨w.heap.size, 2, none⟩ = some (.int .i64 n) ∧ w'.cell? ⟨w.heap.size, 3, none⟩ = some (.int .i64 h) ∧ Below V.heap.size V w')
    (first | with_reducible exact keepSO hkh Qx6.out Qy6.out Qz6.out Qw6.out Hp6.out Hv6.out | with_reducible exact keepSO hkg Qx6.out Qy6.out Qz6.out Qw6.out Hp6.out Hv6.out | with_reducible exact keepSO hkf Qx6.out Qy6.out Qz6.out Qw6.out Hp6.out Hv6.out | with_reducible exact keepSO hke Qx6.out Qy6.out Qz6.out Qw6.out Hp6.out Hv6.out | with_reducible exact keepSO hkd Qx6.out Qy6.out Qz6.out Qw6.out Hp6.out Hv6.out | with_reducible exact keepSO hkc Qx6.out Qy6.out Qz6.out Qw6.out Hp6.out Hv6.out | with_reducible exact keepSO hkb Qx6.out Qy6.out Qz6.out Qw6.out Hp6.out Hv6.out | with_reducible exact keepSO hka Qx6.out Qy6.out Qz6.out Qw6.out Hp6.out Hv6.out | (refine keepSO ?_ Qx6.out Qy6.out Qz6.out Qw6.out Hp6.out Hv6.out; go_grown))
    (first
      | (go_at_call 25; refine (CI.out _ (HSV.out.keep (by go_grown))).mono ?_; rintro e wa ⟨rfl, hw⟩; have hka := below_of (w := V) (by go_grown) hw; clear hw)
      | (go_at_call 26; refine (KI6.out _ (HRV.out.keep (B := V.heap.size) hka (Nat.le_refl _))).mono ?_; rintro e wb ⟨rfl, hw⟩; have hkb := hka.trans (hw.mono hka.size); clear hw)
      | (go_at_call 14; refine (CD.out _ (HSV.out.keep hkb)).mono ?_; rintro e wc ⟨vc, rfl, hc, hw⟩; have hkc := hkb.trans (hw.mono hkb.size); have HVC := Lib.hid hc; clear hc hw)
      | (go_at_call 28; refine (KD.out _ (HRV.out.keep (B := V.heap.size) hkc (Nat.le_refl _))).mono ?_; rintro e wd ⟨vd, rfl, hd, hw⟩; have hkd := hkc.trans (hw.mono hkc.size); have HVC2 := Lib.hid (own_fresh HVC.out hw); have HVD := Lib.hid hd; clear hd hw)
      | (go_at_call 27; refine (rsame_yes _ _ vc vd L _ HVC2.out HVD.out hLb).mono ?_; rintro e we ⟨rfl, hw⟩; have hke := hkd.trans (hw.mono hkd.size); clear hw)
      | (go_at_call 30; refine (CH.out _ (HSV.out.keep hke)).mono ?_; rintro e wf ⟨vf, rfl, hf, hw⟩; have hkf := hke.trans (hw.mono hke.size); have HVF := Lib.hid hf; clear hf hw)
      | (go_at_call 31; refine (KH.out _ (HRV.out.keep (B := V.heap.size) hkf (Nat.le_refl _))).mono ?_; rintro e wg ⟨vg, rfl, hg, hw⟩; have hkg := hkf.trans (hw.mono hkf.size); have HVF2 := Lib.hid (own_fresh HVF.out hw); have HVG := Lib.hid hg; clear hg hw)
      | (go_at_call 29; refine (ints_yes _ _ vf vg hs _ HVF2.out HVG.out hH).mono ?_; rintro e wh ⟨rfl, hw⟩; have hkh := hkg.trans (hw.mono hkg.size); clear hw))
  all_goals (go_wp2_with fail)
  all_goals go_ret
  all_goals exact ⟨rfl, B6.out.trans (hkh.mono B6.out.size)⟩

end Go.Proofs.YtcbfppangiopeaaGreat

namespace Go.Proofs.YtcbfppangiopeaaGreat
open Go.RowKit Go.Maps
set_option maxRecDepth 100000

theorem rdq_offR {S : Nat → Prop} {w w' : World} {A : Option Addr} {ls : List Pr} (h : RdQ w A ls) (hf : Frm S w w') (hs : ∀ g off, A = some ⟨g, off, none⟩ → ls ≠ [] → ¬ S g) : RdQ w' A ls := fun hn => by
  obtain ⟨g, off, e, hg, hc⟩ := h hn
  have hS := hs g off e hn
  refine ⟨g, off, e, Nat.lt_of_lt_of_le hg hf.size, fun i hi => ?_⟩
  obtain ⟨c0, c1, c2, c3, c4⟩ := hc i hi
  exact ⟨(hf.cell (p := ⟨g, off + i * 5, none⟩) hg hS).trans c0, (hf.cell (p := ⟨g, off + i * 5 + 1, none⟩) hg hS).trans c1, (hf.cell (p := ⟨g, off + i * 5 + 2, none⟩) hg hS).trans c2, (hf.cell (p := ⟨g, off + i * 5 + 3, none⟩) hg hS).trans c3, (hf.cell (p := ⟨g, off + i * 5 + 4, none⟩) hg hS).trans c4⟩
theorem frm_set4 {q : Nat} {w : World} {y0 y1 y2 y3 : Value} : Frm (fun b => b = q) w ((((w.setCell ⟨q, 0, none⟩ y0).setCell ⟨q, 1, none⟩ y1).setCell ⟨q, 2, none⟩ y2).setCell ⟨q, 3, none⟩ y3) :=
  ((((Frm.refl (fun b => b = q) w).setCell (p := ⟨q, 0, none⟩) (.inl rfl) _).setCell (p := ⟨q, 1, none⟩) (.inl rfl) _).setCell (p := ⟨q, 2, none⟩) (.inl rfl) _).setCell (p := ⟨q, 3, none⟩) (.inl rfl) _
theorem RibS.frmR {w w' : World} {r : Nat} {S S' : Nat → Prop} {n h : Int} {L : List Pr} {most : Nat} (H : RibS w r S n h L most) (hf : Frm S' w w') (hn : ∀ b, S b → ¬ S' b) : RibS w' r S n h L most := by
  obtain ⟨t, m, S0, D, H, hI, rfl⟩ := H
  exact ⟨t, m, S0, D, { H with blk := (hf.block _ H.lt (hn _ (.inl rfl))).trans H.blk, tree := H.tree.frm hf (fun b hb => hn b (.inr (.inr hb))), map := cnts_frm H.map hf (hn _ (.inr (.inl rfl))) }, hI, rfl⟩
/-- Routes and the document's answer side by side: the latter's box is q. -/
structure BothR (N r q : Nat) (S : Nat → Prop) (A : Option Addr) (c : Nat) (n h : Int) (L : List Pr) (M : Nat) (wr : World) : Prop where
  T : RibS wr r S n h L M
  Q : wr.heap[q]? = some (.cells #[.slice A L.length c, .int .i64 (M : Int), .int .i64 n, .int .i64 h] 35 (0, 0))
  R : RdQ wr A L
  nq : ¬ S q
  ng : ∀ g off, A = some ⟨g, off, none⟩ → L ≠ [] → ¬ S g ∧ g ≠ q
  zq : N ≤ q
theorem BothR.keep {N r q : Nat} {S : Nat → Prop} {A : Option Addr} {c : Nat} {n h : Int} {L : List Pr} {M : Nat} {wr w1 : World} (H : BothR N r q S A c n h L M wr) (hb : Below wr.heap.size wr w1) : BothR N r q S A c n h L M w1 :=
  ⟨H.T.keep hb, (hb.block q (lt_of_block H.Q)).trans H.Q, H.R.keep hb (Nat.le_refl _), H.nq, H.ng, H.zq⟩
theorem keep10R {W w' : World} {q g : Nat} {o0 o1 o2 o3 o4 o5 : Nat} {a0 a1 a2 a3 c0 c1 c2 c3 c4 c5 : Value} (hb : Below W.heap.size W w') (hq : q < W.heap.size) (hg : g < W.heap.size) (x0 : W.cell? ⟨q, 0, none⟩ = some a0) (x1 : W.cell? ⟨q, 1, none⟩ = some a1) (x2 : W.cell? ⟨q, 2, none⟩ = some a2) (x3 : W.cell? ⟨q, 3, none⟩ = some a3) (h0 : W.cell? ⟨g, o0, none⟩ = some c0) (h1 : W.cell? ⟨g, o1, none⟩ = some c1) (h2 : W.cell? ⟨g, o2, none⟩ = some c2) (h3 : W.cell? ⟨g, o3, none⟩ = some c3) (h4 : W.cell? ⟨g, o4, none⟩ = some c4) (h5 : W.cell? ⟨g, o5, none⟩ = some c5) :
    w'.cell? ⟨q, 0, none⟩ = some a0 ∧ w'.cell? ⟨q, 1, none⟩ = some a1 ∧ w'.cell? ⟨q, 2, none⟩ = some a2 ∧ w'.cell? ⟨q, 3, none⟩ = some a3 ∧ w'.cell? ⟨g, o0, none⟩ = some c0 ∧ w'.cell? ⟨g, o1, none⟩ = some c1 ∧ w'.cell? ⟨g, o2, none⟩ = some c2 ∧ w'.cell? ⟨g, o3, none⟩ = some c3 ∧ w'.cell? ⟨g, o4, none⟩ = some c4 ∧ w'.cell? ⟨g, o5, none⟩ = some c5 ∧ Below W.heap.size W w' :=
  ⟨(hb.cell (p := ⟨q, 0, none⟩) hq).trans x0, (hb.cell (p := ⟨q, 1, none⟩) hq).trans x1, (hb.cell (p := ⟨q, 2, none⟩) hq).trans x2, (hb.cell (p := ⟨q, 3, none⟩) hq).trans x3, (hb.cell (p := ⟨g, o0, none⟩) hg).trans h0, (hb.cell (p := ⟨g, o1, none⟩) hg).trans h1, (hb.cell (p := ⟨g, o2, none⟩) hg).trans h2, (hb.cell (p := ⟨g, o3, none⟩) hg).trans h3, (hb.cell (p := ⟨g, o4, none⟩) hg).trans h4, (hb.cell (p := ⟨g, o5, none⟩) hg).trans h5, hb⟩
/-- At the head of a round. -/
def BothRR (w : World) (N r q : Nat) (n h : Int) (ls : List Ac) (P : World → Prop) (i : Value) (wr : World) : Prop :=
  ∃ (k : Nat) (S : Nat → Prop) (A : Option Addr) (c : Nat), k ≤ ls.length ∧ i = .int .i64 k ∧ BothR N r q S A c n h (rplayK n h ls k).1 (rplayK n h ls k).2 wr ∧ (rplayK n h ls k).2 ≤ 2 + 128 * k ∧ (∀ b, S b → N ≤ b) ∧ Below w.heap.size w wr ∧ N ≤ wr.heap.size ∧ P wr

set_option maxHeartbeats 16000000 in
theorem ribplays_law (n0 h0 : Int) (A : Option Addr) (cap : Nat) (ls : List Ac) (p : Pf) (a : Ad) (w : World) (hr : RdA w A ls) :
    Calls Tryz.prog 3 #[.int .i64 n0, .int .i64 h0, .slice A ls.length cap, .agg #[.int .u64 (u p.a.hi), .int .u64 (u p.a.lo), .bool p.a.v6, .int .i64 p.n], .agg #[.int .u64 (u a.hi), .int .u64 (u a.lo), .bool a.v6]] w fun e w' => e = .returned (.bool true) ∧ Below w.heap.size w w' := by
  have HR := Lib.hid hr
  clear hr
  by_cases hlen : 60 < ls.length
  · have t0 : decide ((60 : Int) < (ls.length : Int)) = true := by simp; omega
    go_enter Tryz.func3, Tryz.ntmps3
    go_wp2_with fail
    refine (awake6_any _).mono ?_
    rintro e w1 ⟨rfl, hw1⟩
    have b1 : Below w.heap.size w w1 := below_of (by go_grown) hw1
    go_wp2
    go_ret
    exact ⟨rfl, b1⟩
  · have t0 : decide ((60 : Int) < (ls.length : Int)) = false := by simp; omega
    go_enter Tryz.func3, Tryz.ntmps3
    go_wp2_with fail
    generalize hW0 : World.alloc (World.alloc w _) _ = W0
    have b0 : Below w.heap.size w W0 := by subst hW0; go_grown
    have hP0 : PBox W0 w.heap.size p := by subst hW0; exact ⟨by go_simp <;> rfl, by go_simp <;> rfl, by go_simp <;> rfl, by go_simp <;> rfl, by go_simp <;> rfl, by go_simp <;> rfl, by go_simp <;> rfl, by go_simp <;> rfl, by go_size⟩
    have hA0 : ABox W0 (w.heap.size + 1) a := by subst hW0; exact ⟨by go_simp <;> rfl, by go_simp <;> rfl, by go_simp <;> rfl, by go_size⟩
    clear hW0
    refine (awake6_any _).mono ?_
    rintro e w1 ⟨rfl, hw1⟩
    have b1 := below_of (w := w) b0 hw1
    have hP1 := hP0.keep hw1
    have hA1 := hA0.keep hw1
    clear hP0 hA0 hw1 b0
    go_wp2_with fail
    refine (rib_new n0 h0 _).mono ?_
    rintro e w3 ⟨r, S3, rfl, hT3, hb3, hS3⟩
    have b3 := below_of (w := w) b1 hb3
    have hP3 := hP1.keep hb3
    have hA3 := hA1.keep hb3
    have za1 : w.heap.size + 1 < w1.heap.size := hA1.2.2.2
    have n3 : ∀ b, S3 b → w.heap.size + 1 + 1 ≤ b := fun b hb => by have := hS3 b hb; omega
    obtain ⟨n', hn'⟩ : ∃ n', max 0 (min n0 4096) = n' := ⟨_, rfl⟩
    obtain ⟨h', hh'⟩ : ∃ h', max 0 (min h0 65536) = h' := ⟨_, rfl⟩
    have en : clampN n0 = n' := by unfold clampN; omega
    have eh : clampH h0 = h' := by unfold clampH; omega
    rw [en, eh] at hT3
    have hnb : 0 ≤ n' ∧ n' ≤ 4096 := by omega
    have hhb : 0 ≤ h' ∧ h' ≤ 65536 := by omega
    clear hP1 hA1 hb3 hS3 en eh
    go_wp2_with fail
    have ck := knew6x_any n0 h0 w3
    rw [hn', hh'] at ck
    refine ck.mono ?_
    rintro e w4 ⟨rfl, hb4⟩
    clear ck hn' hh'
    have b4 := below_of (w := w) b3 hb4
    have hBoth : BothR (w.heap.size + 1 + 1) r w4.heap.size S3 none 0 n' h' [] 2 (w4.alloc (.cells #[.slice none 0 0, .int .i64 2, .int .i64 n', .int .i64 h'] 35 (0, 0))) := by
      have hb5 := (Below.refl w4.heap.size w4).alloc (Nat.le_refl _) (.cells #[.slice none 0 0, .int .i64 2, .int .i64 n', .int .i64 h'] 35 (0, 0))
      refine ⟨(hT3.keep hb4).keep hb5, hp_new rfl, fun h => absurd rfl h, fun e => ?_, fun g off _ h => absurd rfl h, by have := b4.size; have := hA3.2.2.2; have := hb4.size; omega⟩
      have := (hT3.keep hb4).lt _ e
      omega
    have z4 : w.heap.size + 1 + 1 ≤ w4.heap.size := by have := hb4.size; have := hA3.2.2.2; omega
    have HB0 := Lib.hid hBoth
    have HN3 := Lib.hid n3
    have HP4 := Lib.hid (And.intro (hP3.keep hb4) (hA3.keep hb4))
    have HB4 := Lib.hid b4
    have HNB := Lib.hid (And.intro hnb hhb)
    clear hBoth hT3 n3 hP3 hA3 hb4 b3 b1 za1 b4 hnb hhb
    go_wp2_with fail
    go_loopw [14] (fun i wr => BothRR w (w.heap.size + 1 + 1) r w4.heap.size n' h' ls (fun W => PBox W w.heap.size p ∧ ABox W (w.heap.size + 1) a) i wr) (fun i _ => ls.length - (intOf i).toNat)
    case atStart =>
      have hb5 := (Below.refl w4.heap.size w4).alloc (Nat.le_refl _) (.cells #[.slice none 0 0, .int .i64 2, .int .i64 n', .int .i64 h'] 35 (0, 0))
      exact ⟨0, S3, none, 0, Nat.zero_le _, rfl, HB0.out, Nat.le_refl _, HN3.out, HB4.out.trans (hb5.mono HB4.out.size), Nat.le_trans z4 hb5.size, HP4.out.1.keep hb5, HP4.out.2.keep hb5⟩
    case round =>
      obtain ⟨k, S, A2, c, hk, rfl, hBo, hm, hN, hB, hz, hPb, hAb⟩ := hrel
      have HO := Lib.hid hBo
      have HN := Lib.hid hN
      have HPb := Lib.hid hPb
      have HAb := Lib.hid hAb
      generalize hq : w4.heap.size = q at HO
      clear hBo hN hPb hAb HB0 HN3 HP4 HB4 hq z4
      by_cases hlt : k < ls.length
      · obtain ⟨g, off, rfl, hg, hc⟩ := HR.out (by intro e; rw [e] at hlt; cases hlt)
        obtain ⟨c0, c1, c2, c3, c4, c5⟩ := hc k hlt
        have d0 := (hB.cell (p := ⟨g, off + k * 6, none⟩) hg).trans c0
        have d1 := (hB.cell (p := ⟨g, off + k * 6 + 1, none⟩) hg).trans c1
        have d2 := (hB.cell (p := ⟨g, off + k * 6 + 2, none⟩) hg).trans c2
        have d3 := (hB.cell (p := ⟨g, off + k * 6 + 3, none⟩) hg).trans c3
        have d4 := (hB.cell (p := ⟨g, off + k * 6 + 4, none⟩) hg).trans c4
        have d5 := (hB.cell (p := ⟨g, off + k * 6 + 5, none⟩) hg).trans c5
        clear c0 c1 c2 c3 c4 c5 hc
        obtain ⟨x, hx⟩ : ∃ x, ls[k] = x := ⟨_, rfl⟩
        rw [hx] at d0 d1 d2 d3 d4 d5
        have HXX := Lib.hid hx
        clear hx
        go_wp2_with fail
        refine (rdo_any HO.out.T (by omega) x).mono ?_
        rintro e w6 ⟨⟨rfl, S6, g1, g2, g3⟩, g4⟩
        rw [← HXX.out] at g1 g4
        have hLL := rplayK_succ n' h' ls k hlt
        obtain ⟨r1, r2, r3, r4, r5, r6⟩ := rplay_next hlt HN.out hz (by omega) hB g1 g2 g3 g4 hm
        have hqw := lt_of_block HO.out.Q
        have hS6q : ¬ S6 q := sub_not g3 hqw HO.out.nq
        have hR6 : RdQ w6 A2 (rplayK n' h' ls k).1 := rdq_offR HO.out.R g2 (fun g off e hn => (HO.out.ng g off e hn).1)
        have hQ6 := (g2.block q hqw HO.out.nq).trans HO.out.Q
        have hS6g : ∀ g off, A2 = some ⟨g, off, none⟩ → (rplayK n' h' ls k).1 ≠ [] → ¬ S6 g ∧ g ≠ q ∧ g < w6.heap.size := fun g off e hn => ⟨sub_not g3 (rdq_below HO.out.R g off e hn) (HO.out.ng g off e hn).1, (HO.out.ng g off e hn).2, Nat.lt_of_lt_of_le (rdq_below HO.out.R g off e hn) g2.size⟩
        have hP6 := HPb.out.frm g2 (fun e => by have := HN.out _ e; omega)
        have hA6 := HAb.out.frm g2 (fun e => by have := HN.out _ e; omega)
        have hgN : g < w.heap.size + 1 + 1 := by omega
        have e0 := (r6.cell (p := ⟨g, off + k * 6, none⟩) hgN).trans d0
        have e1 := (r6.cell (p := ⟨g, off + k * 6 + 1, none⟩) hgN).trans d1
        have e2 := (r6.cell (p := ⟨g, off + k * 6 + 2, none⟩) hgN).trans d2
        have e3 := (r6.cell (p := ⟨g, off + k * 6 + 3, none⟩) hgN).trans d3
        have e4 := (r6.cell (p := ⟨g, off + k * 6 + 4, none⟩) hgN).trans d4
        have e5 := (r6.cell (p := ⟨g, off + k * 6 + 5, none⟩) hgN).trans d5
        have hs := HO.out.T.srt
        have hMk : (rplayK n' h' ls k).2 ≤ 20000 := by omega
        have hl1 : (rplayK n' h' ls k).1.length ≤ 5000 := by
          have hI := HO.out.T.inv
          have := hI.few
          have := hI.n0
          omega
        have hl2 : (rplayK n' h' ls (k + 1)).1.length ≤ 5000 := by
          have hI := r1.inv
          have := hI.few
          have := hI.n0
          omega
        have hzq := HO.out.zq
        have hq6 : q < w6.heap.size := Nat.lt_of_lt_of_le hqw g2.size
        have hg6 : g < w6.heap.size := by have := r4.size; omega
        rw [HXX.out] at hLL
        generalize (rplayK n' h' ls k).1 = L at hR6 hQ6 hS6g hs hl1 hLL
        generalize (rplayK n' h' ls k).2 = M at hQ6 hMk hLL
        have hL1 : (rplayK n' h' ls (k + 1)).1 = rdoQ n' h' x L := by rw [hLL]
        have hM1 : (rplayK n' h' ls (k + 1)).2 = rdoM n' h' x L M := by rw [hLL]
        rw [hL1, hM1] at r1
        rw [hM1] at r2
        rw [hL1] at hl2
        have HLM := Lib.hid (And.intro hL1 hM1)
        have cd := fun (W : World) (hb : Below w6.heap.size w6 W) => kdidx_any (c := c) (hR6.keep hb (Nat.le_refl _)) hs hl1 (most := M) (by omega) n' h' HNB.out.1 HNB.out.2 x
        unfold ChgPost at cd
        have HT6 := Lib.hid r1
        have HN6 := Lib.hid r3
        have HQ6 := Lib.hid hQ6
        have HG6 := Lib.hid hS6g
        have HP6 := Lib.hid (And.intro hP6 hA6)
        have HR4 := Lib.hid r4
        have HNQ := Lib.hid hS6q
        obtain ⟨u0, u1, u2, u3, -⟩ := row4_heap hQ6
        generalize rdoE n' h' x L = E at cd ⊢
        generalize hLn : rdoQ n' h' x L = L' at *
        generalize hMn : rdoM n' h' x L M = M' at *
        have CD := Lib.hid cd
        have HLn := Lib.hid hLn
        have HMn := Lib.hid hMn
        clear cd r1 r3 r6 hQ6 hS6g hP6 hA6 hS6q g1 g2 g3 g4 d0 d1 d2 d3 d4 d5 hL1 hM1 hLL hR6 hs HO HN HPb HAb hB hm hqw hLn hMn
        go_upto_region 10 with fail
        go_cut [16, 17] (fun b f wx => f = .int .i64 E ∧ ∃ y A' c', b = .pointer (some ⟨y, 0, none⟩) ∧ wx.heap[y]? = some (.cells #[.slice A' L'.length c', .int .i64 (M' : Int), .int .i64 n', .int .i64 h'] 35 (0, 0)) ∧ w6.heap.size ≤ y ∧ RdQ wx A' L' ∧ (∀ g off, A' = some ⟨g, off, none⟩ → L' ≠ [] → (A' = A2 ∧ L ≠ []) ∨ w6.heap.size ≤ g) ∧ Below w6.heap.size w6 wx)
        case first =>
          go_region_held3 (fun w' => w'.cell? ⟨q, 0, none⟩ = some (.slice A2 L.length c) ∧ w'.cell? ⟨q, 1, none⟩ = some (.int .i64 (M : Int)) ∧ w'.cell? ⟨q, 2, none⟩ = some (.int .i64 n') ∧ w'.cell? ⟨q, 3, none⟩ = some (.int .i64 h') ∧ w'.cell? ⟨g, off + k * 6, none⟩ = some (.bool x.out) ∧ w'.cell? ⟨g, off + k * 6 + 1, none⟩ = some (.int .u64 (u x.p.a.hi)) ∧ w'.cell? ⟨g, off + k * 6 + 2, none⟩ = some (.int .u64 (u x.p.a.lo)) ∧ w'.cell? ⟨g, off + k * 6 + 3, none⟩ = some (.bool x.p.a.v6) ∧ w'.cell? ⟨g, off + k * 6 + 4, none⟩ = some (.int .i64 x.p.n) ∧ w'.cell? ⟨g, off + k * 6 + 5, none⟩ = some (.int .i64 x.v) ∧ Below w6.heap.size w6 w')
            (first | with_reducible exact keep10R hk7 hq6 hg6 u0 u1 u2 u3 e0 e1 e2 e3 e4 e5 | (refine keep10R ?_ hq6 hg6 u0 u1 u2 u3 e0 e1 e2 e3 e4 e5; go_grown))
            (first | (go_at_call 8; refine (CD.out _ (by go_grown)).mono ?_; rintro e w7 ⟨A', c', rfl, hR7, hA7, hw7⟩; have hk7 := below_of (w := w6) (by go_grown) hw7; have zk7 := hk7.size; (try (have hy7 := (hw7.block w6.heap.size (by simp)).trans (hp_new rfl); obtain ⟨v0, v1, v2, v3, vf0, vf1, vf2, vf3, vz⟩ := row4_heap hy7))))
          · go_wp2_with fail
            go_meet
            case rel =>
              have hb9 := (Below.refl w7.heap.size w7).alloc (Nat.le_refl _) (.cells #[.slice A' L'.length c', .int .i64 (M' : Int), .int .i64 n', .int .i64 h'] 35 (0, 0))
              exact ⟨rfl, w7.heap.size, A', c', rfl, hp_new rfl, hk7.size, hR7.keep hb9 (Nat.le_refl _), fun g off e hn => hA7 g off e hn, hk7.trans (hb9.mono hk7.size)⟩
          · go_wp2_with fail
            go_meet
            case rel =>
              refine ⟨rfl, w6.heap.size, A', c', rfl, row4_set hy7, Nat.le_refl _, rdq_offR hR7 frm_set4 (fun g off e hn h => ?_), fun g off e hn => ?_, below_set4 hk7 (Nat.le_refl _)⟩
              · rcases hA7 g off e hn with ⟨e1, e2⟩ | e1
                · have := (HG6.out g off (e1 ▸ e) e2).2.2
                  omega
                · simp at e1
                  omega
              · rcases hA7 g off e hn with e1 | e1
                · exact .inl e1
                · simp at e1
                  exact .inr (by omega)
        case rest =>
          obtain ⟨rfl, y, A', c', rfl, hy, hyz, hRc, hgc, hbc⟩ := hcut
          have hQc := (hbc.block q hq6).trans HQ6.out
          obtain ⟨p0, p1, p2, p3, -, -, -, -, pz⟩ := row4_heap hy
          obtain ⟨q0, q1, q2, q3, f0, f1, f2, f3, qz⟩ := row4_heap hQc
          have hyq : ¬ y = q := by omega
          clear u0 u1 u2 u3
          go_upto_region 12 with fail
          generalize hX : World.setCell (World.setCell (World.setCell (World.setCell wc _ _) _ _) _ _) _ _ = X
          have hFq : Frm (fun b => b = q) wc X := by subst hX; exact frm_set4
          have hgq : ∀ g off, A' = some ⟨g, off, none⟩ → L' ≠ [] → ¬ S6 g ∧ g ≠ q := fun g off e hn => by
            rcases hgc g off e hn with ⟨e1, e2⟩ | e1
            · have := HG6.out g off (e1 ▸ e) e2
              exact ⟨this.1, this.2.1⟩
            · exact ⟨fun h => by have := HT6.out.lt _ h; omega, by omega⟩
          have hTX : RibS X r S6 n' h' L' M' := (HT6.out.keep hbc).frmR hFq (fun b hb e => by subst e; exact HNQ.out hb)
          have hBX : BothR (w.heap.size + 1 + 1) r q S6 A' c' n' h' L' M' X := ⟨hTX, by subst hX; exact row4_set hQc, rdq_offR hRc hFq (fun g off e hn h => (hgq g off e hn).2 h), HNQ.out, hgq, hzq⟩
          have hq1 : ¬ w.heap.size = q := by omega
          have hq2 : ¬ w.heap.size + 1 = q := by omega
          have hq3 : ¬ g = q := by omega
          have hPX := (HP6.out.1.keep hbc).frm hFq hq1
          have hAX := (HP6.out.2.keep hbc).frm hFq hq2
          have hbX : Below w.heap.size w X := (HR4.out.trans (hbc.mono (by have := HR4.out.size; omega))).trans (hFq.below (B := w.heap.size) (fun b e => by subst e; omega) (by omega))
          have hX6 : ∀ o v, w6.cell? ⟨g, o, none⟩ = some v → X.cell? ⟨g, o, none⟩ = some v := fun o v h => (hFq.cell (p := ⟨g, o, none⟩) (by have := hbc.size; simp only; omega) hq3).trans ((hbc.cell (p := ⟨g, o, none⟩) hg6).trans h)
          have s1 := hX6 _ _ e1
          have s2 := hX6 _ _ e2
          have s3 := hX6 _ _ e3
          have s4 := hX6 _ _ e4
          have hNX : w.heap.size + 1 + 1 ≤ X.heap.size := by have := hbX.size; have := hAX.2.2.2; omega
          obtain ⟨n0', n1', n2', n3', -, -, -, -, nz⟩ := row4_heap hBX.Q
          obtain ⟨pa, pb, pc, pg, -, -, -, -, pz9⟩ := id hPX
          obtain ⟨aa, ab, ac, az9⟩ := id hAX
          have hgX : g < X.heap.size := by have := hbX.size; omega
          have L0 := fun z : Later X.heap.size X => (z.cell (p := ⟨q, 0, none⟩) nz).trans n0'
          have L1 := fun z : Later X.heap.size X => (z.cell (p := ⟨q, 1, none⟩) nz).trans n1'
          have L2 := fun z : Later X.heap.size X => (z.cell (p := ⟨q, 2, none⟩) nz).trans n2'
          have L3 := fun z : Later X.heap.size X => (z.cell (p := ⟨q, 3, none⟩) nz).trans n3'
          have K1 := fun z : Later X.heap.size X => (z.cell (p := ⟨g, off + k * 6 + 1, none⟩) hgX).trans s1
          have K2 := fun z : Later X.heap.size X => (z.cell (p := ⟨g, off + k * 6 + 2, none⟩) hgX).trans s2
          have K3 := fun z : Later X.heap.size X => (z.cell (p := ⟨g, off + k * 6 + 3, none⟩) hgX).trans s3
          have K4 := fun z : Later X.heap.size X => (z.cell (p := ⟨g, off + k * 6 + 4, none⟩) hgX).trans s4
          have P0 := fun z : Later X.heap.size X => (z.cell (p := ⟨w.heap.size, 0, none⟩) pz9).trans pa
          have P1 := fun z : Later X.heap.size X => (z.cell (p := ⟨w.heap.size, 1, none⟩) pz9).trans pb
          have P2 := fun z : Later X.heap.size X => (z.cell (p := ⟨w.heap.size, 2, none⟩) pz9).trans pc
          have P3 := fun z : Later X.heap.size X => (z.cell (p := ⟨w.heap.size, 3, none⟩) pz9).trans pg
          have A0 := fun z : Later X.heap.size X => (z.cell (p := ⟨w.heap.size + 1, 0, none⟩) az9).trans aa
          have A1 := fun z : Later X.heap.size X => (z.cell (p := ⟨w.heap.size + 1, 1, none⟩) az9).trans ab
          have A2' := fun z : Later X.heap.size X => (z.cell (p := ⟨w.heap.size + 1, 2, none⟩) az9).trans ac
          have hsm := fun (z : Later X.heap.size X) (p' : Pf) (a' : Ad) => same6_any (c := c') (hBX.keep z.below).T (hBX.keep z.below).R hl2 p' a'
          have HSM := Lib.hid hsm
          have HBX := Lib.hid hBX
          have HPX := Lib.hid (And.intro hPX hAX)
          have tE : (E != E) = false := by simp
          clear hX hFq hgq hTX hBX hsm hPX hAX hX6 n0' n1' n2' n3' s1 s2 s3 s4 pa pb pc pg aa ab ac p0 p1 p2 p3 q0 q1 q2 q3 f0 f1 f2 f3 hy hQc hRc hgc e0 e1 e2 e3 e4 e5 HT6 HQ6 HG6 HP6 HNQ CD
          refine region_later X.heap.size (by kernel_rfl) (by kernel_rfl) ?_
          repeat (go_big_quiet_step (first | (go_at_call 9; with_reducible exact later_of (Nat.le_refl _) (HSM.out _ x.p x.p.a)) | (go_at_call 9; with_reducible exact later_of (Nat.le_refl _) (HSM.out _ p a))))
          refine wpQuiet_nil ?_
          intro z
          have hbz := z.below
          clear L0 L1 L2 L3 K1 K2 K3 K4 P0 P1 P2 P3 A0 A1 A2' HSM
          generalize z.at = Z at hbz ⊢
          clear z
          go_wp2_with fail
          refine ⟨⟨k + 1, S6, A', c', by omega, by go_num, by rw [HLM.out.1, HLM.out.2]; exact HBX.out.keep hbz, by rw [HLM.out.2]; omega, HN6.out, hbX.trans (hbz.mono hbX.size), Nat.le_trans hNX hbz.size, HPX.out.1.keep hbz, HPX.out.2.keep hbz⟩, by simp [intOf]; omega⟩
      · have hke : k = ls.length := by omega
        have t1 : decide (k < ls.length) = false := by simp; omega
        have hl1 : (rplayK n' h' ls k).1.length ≤ 5000 := by
          have hI := HO.out.T.inv
          have := hI.few
          have := hI.n0
          omega
        have cs := same6_any (c := c) HO.out.T HO.out.R hl1 p a
        obtain ⟨u0, u1, u2, u3, -, -, -, -, uz⟩ := row4_heap HO.out.Q
        generalize (rplayK n' h' ls k).1 = L at cs u0
        generalize (rplayK n' h' ls k).2 = M at cs u1
        have CS := Lib.hid cs
        obtain ⟨pa, pb, pc, pg, -⟩ := id HPb.out
        obtain ⟨aa, ab, ac, -⟩ := id HAb.out
        clear cs HO HN HPb HAb HR hm hl1
        go_wp2_with fail
        refine CS.out.mono ?_
        rintro e w9 ⟨rfl, hw9⟩
        have b9 := hB.trans (hw9.mono hB.size)
        go_wp2
        go_ret
        exact ⟨rfl, b9⟩

end Go.Proofs.YtcbfppangiopeaaGreat

namespace Go.Proofs.YtcbfppangiopeaaGreat
open Go.ChangeShapes Go.WideShapes Go.ChangeAt Go.RowKit

set_option maxRecDepth 100000 in
theorem ribPlays_lifted (os : Os) (started : os.Started) (H : Type) (enc : TypeId × Value → H) :
    ReturnsInHanded {} Tryz.checked os 3 .any (Rows.ribPlaysSpec.pre6 enc Tryz.prog Tryz.f3 Rows.ribPlaysRow.domain false) (Rows.ribPlaysSpec.post enc Tryz.prog Tryz.f3 false true false false) := by
  refine returnsInHanded_of_change (C := Tryz.checked) own started (by kernel_rfl) Tryz.func3
    (ChangeSpec.witness6 (enc := enc) (C := Tryz.checked) false ⟨#[], #[.int .i64 0, .int .i64 0, .slice none 0 0, .agg #[.int .u64 0, .int .u64 0, .bool false, .int .i64 0], .agg #[.int .u64 0, .int .u64 0, .bool false]], []⟩ 8 (by kernel_rfl) (by kernel_rfl) (by kernel_rfl) (by kernel_rfl)) ?_
  intro W base args ds gs before hval0 hW hcnd _
  have hval : ∀ (j : Nat) t v, Tryz.f3.params[j]? = some t → args[j]? = some v → Value.okWide Tryz.prog W .any base t v := hval0
  have hW' := hW
  obtain ⟨p, q, hA0, hV, rfl, hfz, hnd⟩ := hW
  have hA : DataW.TrodAll enc Tryz.prog W 0 (fun _ => true) true Tryz.f3.params.toList args.toList ds p := hA0
  rw [Tryz.params3] at hA hval
  obtain ⟨v0, vs0, d0, ds0, p0, q0, hargs, rfl, rfl, h0, r0⟩ := trodAll_cons hA
  obtain ⟨v1, vs1, d1, ds1, p1, q1, rfl, rfl, rfl, h1, r1⟩ := trodAll_cons r0
  obtain ⟨v2, vs2, d2, ds2, p2, q2, rfl, rfl, rfl, h2, r2⟩ := trodAll_cons r1
  obtain ⟨v3, vs3, d3, ds3, p3, q3, rfl, rfl, rfl, h3, r3⟩ := trodAll_cons r2
  obtain ⟨v4, vs4, d4, ds4, p4, q4, rfl, rfl, rfl, h4, r4⟩ := trodAll_cons r3
  obtain ⟨rfl, rfl, rfl⟩ := trodAll_nil r4
  obtain rfl : args = #[v0, v1, v2, v3, v4] := by cases args; simp_all
  obtain ⟨rfl, rfl⟩ := trodVars_none hV
  have lt0 : ∀ x ∈ p0, x.block < W.heap.size := by obtain ⟨m, hm⟩ := h0; exact DataW.trod_lt m _ _ _ hm
  have k0 := h0
  obtain ⟨a0, rfl, e0, f0, w0⟩ := open_int Tryz.underlying3 (hval 0 3 v0 rfl rfl) h0
  have lt1 : ∀ x ∈ p1, x.block < W.heap.size := by obtain ⟨m, hm⟩ := h1; exact DataW.trod_lt m _ _ _ hm
  have k1 := h1
  obtain ⟨a1, rfl, e1, f1, w1⟩ := open_int Tryz.underlying3 (hval 1 3 v1 rfl rfl) h1
  have lt2 : ∀ x ∈ p2, x.block < W.heap.size := by obtain ⟨m, hm⟩ := h2; exact DataW.trod_lt m _ _ _ hm
  obtain ⟨A2, cap2, l2, rfl, w2⟩ := open_acs6 (hval 2 22 v2 rfl rfl) h2 (fun _ => rfl)
  have lt3 : ∀ x ∈ p3, x.block < W.heap.size := by obtain ⟨m, hm⟩ := h3; exact DataW.trod_lt m _ _ _ hm
  obtain ⟨a3, rfl, w3⟩ := open_pf (hval 3 27 v3 rfl rfl) h3
  have lt4 : ∀ x ∈ p4, x.block < W.heap.size := by obtain ⟨m, hm⟩ := h4; exact DataW.trod_lt m _ _ _ hm
  obtain ⟨a4, rfl⟩ := open_ad (hval 4 25 v4 rfl rfl) h4
  clear hA0 hval0
  refine (ribplays_law a0 a1 A2 cap2 l2 a3 a4 W w2).mono fun e W' ⟨he, bel⟩ => ?_
  subst he
  exact ⟨_, rfl, _, _, _, [], _, [], hW', trodAll_mk1 (shut_bool Tryz.underlying4 _), (trodAll_cons_mk (Below.trod laidOut (by kernel_rfl) (of_decide_eq_true (by kernel_rfl)) h0 bel lt0) (trodAll_cons_mk (Below.trod laidOut (by kernel_rfl) (of_decide_eq_true (by kernel_rfl)) h1 bel lt1) (trodAll_cons_mk (Below.trod laidOut (by kernel_rfl) (of_decide_eq_true (by kernel_rfl)) h2 bel lt2) (trodAll_cons_mk (Below.trod laidOut (by kernel_rfl) (of_decide_eq_true (by kernel_rfl)) h3 bel lt3) (trodAll_cons_mk (Below.trod laidOut (by kernel_rfl) (of_decide_eq_true (by kernel_rfl)) h4 bel lt4) trodAll_mk0))))), rfl, bel.frame _, fun h => by cases h⟩

theorem ribPlays_holds : Rows.RibPlaysSaid :=
  OpenClaim.holds_of_wide 3 Tryz.f3 rfl rfl rfl rfl rfl rfl rfl ⟨rfl, rfl, rfl, rfl, rfl⟩ rfl rfl rfl rfl rfl (by kernel_rfl) Tryz.func3 (by kernel_rfl)
    (of_decide_eq_true (by kernel_rfl)) (by unfold Func.isWrapper; first | (rw [if_pos (by decide +kernel)]; kernel_rfl) | (rw [if_neg (by decide +kernel)]; exact ⟨rfl, rfl⟩))
    (fun os started H enc _ => ribPlays_lifted os started H enc)

end Go.Proofs.YtcbfppangiopeaaGreat
