/-
  RibErrors: for every input the call returns true, and each argument reads afterwards as it read before. No condition.
-/
import Derived.Test.YtnepmlhbheaonaaF1
import Derived.Test.YtnepmlhbheaonaaShelf
import Derived.Maps.RangeWalk
import Derived.Lib.SlKeysI
import Derived.OwnWalkIn
namespace Go.Proofs.Ytnepmlhbheaonaa
open Go.RowKit Go.Maps Go.Sort Go.Shelf
set_option maxRecDepth 100000

/-- Each once. -/
def ddL : List Int → List Int
  | [] => []
  | x :: r => if x ∈ ddL r then ddL r else x :: ddL r
theorem mem_dd : ∀ (l : List Int) (x : Int), x ∈ ddL l ↔ x ∈ l := by
  intro l
  induction l with
  | nil => intro x; exact Iff.rfl
  | cons y r ih =>
    intro x
    unfold ddL
    split
    · rename_i hy
      rw [ih, List.mem_cons]
      exact ⟨.inr, fun e => e.elim (fun e => e ▸ (ih y).1 hy) id⟩
    · rw [List.mem_cons, List.mem_cons, ih]
theorem nodup_dd : ∀ l : List Int, (ddL l).Nodup := by
  intro l
  induction l with
  | nil => exact List.nodup_nil
  | cons y r ih =>
    unfold ddL
    split
    · exact ih
    · rename_i hy
      exact List.nodup_cons.2 ⟨hy, ih⟩
/-- The hops, rising, each once. -/
def hopS (L : List Pr) : List Int := (ddL (hopsL L)).mergeSort leI
theorem hopS_len (L : List Pr) : (hopS L).length = unl (hopsL L) := by
  unfold hopS
  rw [List.length_mergeSort]
  exact unl_dist (nodup_dd _) (mem_dd _)
theorem dd_perm {w : World} {m n : Nat} {D : DataW Unit} {hs : List Int} (h : cnts w m n D) (hu : Uses D hs) : (ddL hs).Perm (intKeys D) := by
  have hc : CollectedI D (fun _ => false) (ddL hs) := ⟨nodup_dd hs, fun x => by
    rw [mem_dd, hu.has x]
    simp only [decide_eq_true_eq, and_true]
    exact List.count_pos_iff.symm⟩
  exact hc.perm h lawI Try.underlying3 (fun _ => rfl)
/-- A fresh row of numbers. -/
def IntsPost (w : World) (l : List Int) (e : Ending) (w' : World) : Prop := ∃ v, e = .returned v ∧ w'.ownsRow w.heap.size 3 1 v l.length (l.map encZ) ∧ Below w.heap.size w w'
theorem sorts_any (m : Nat) : AnyZI.SortsIn Try.prog Try.sortedA_ren Fence.wide m :=
  ⟨fun blk off cap ss W hH hblk hsz => callsIn_wide.2 (AnyM.slices_Sort_int Try.sortA blk off cap ss W hH hblk hsz),
   fun p cap W => callsIn_wide.2 (AnyM.slices_Sort_int_none Try.sortA p cap W)⟩
theorem keys_calls (mb : Option Nat) (W : World) : Calls Try.prog 62 #[.map mb] W fun e w' => e = .returned (.func (.func 93) #[] #[.pointer (some ⟨W.heap.size, 0, none⟩)]) ∧ w' = W.alloc (.cells #[.map mb] 30) :=
  (callsIn_wide (n := 5)).1 (AnyZI.keys_in Try.keysA Fence.wide 5 trivial rfl mb W)
theorem sorted_calls {b nn : Nat} {D0 : DataW Unit} (w : World) (hown : cnts w b nn D0) (hz : Maps.size D0 ≤ 100000) : Calls Try.prog 61 #[.func (.func 93) #[] #[.pointer (some ⟨w.heap.size, 0, none⟩)]] (w.alloc (.cells #[.map (some b)] 30)) fun e w' => ∃ (v : Value) (ss : List Int), e = .returned v ∧ ss.Perm (intKeys D0) ∧
      w'.ownsRow (w.alloc (.cells #[.map (some b)] 30)).heap.size 3 1 v ss.length ((ss.mergeSort (fun x y => decide (x ≤ y))).map encZ) ∧ (v = .slice none 0 0 ↔ ss = []) ∧ Below (w.alloc (.cells #[.map (some b)] 30)).heap.size (w.alloc (.cells #[.map (some b)] 30)) w' := by
  refine (callsIn_wide (n := 5)).1 ?_
  have hbl := World.ownsMap.lt hown
  have hseq : SeqGives Fence.wide 2 Try.prog 93 #[.pointer (some ⟨w.heap.size, 0, none⟩)] encZ (fun ss => ss.Perm (intKeys D0)) (Maps.size D0) (w.alloc (.cells #[.map (some b)] 30)) :=
    AnyZI.keys_gives (ρ := Try.keysA_ren) { Try.keysA with } Fence.wide _ trivial rfl (by omega) w.heap.size b nn D0 _ (by simp) (by simp) (by
      obtain ⟨es, clock, hb, Ft, hs, hD⟩ := hown
      exact ⟨es, clock, (Below.heap_alloc _ _ b hbl).trans hb, Ft, hs, hD⟩)
  exact AnyZI.sorted_in Try.sortedA Fence.wide 5 trivial trivial trivial trivial rfl (by omega) (sorts_any _) (enters_of Try.func92 (by kernel_rfl) rfl) 93 #[.pointer (some ⟨w.heap.size, 0, none⟩)] trivial (enters_of Try.func93 (by kernel_rfl) rfl) _ _ (by unfold maxLen; omega) (by omega) _ hseq
set_option maxHeartbeats 1000000 in
theorem rib_hops {w : World} {r : Nat} {S : Nat → Prop} {n h : Int} {L : List Pr} {most : Nat} (H : RibS w r S n h L most) : Calls Try.prog 22 #[.pointer (some ⟨r, 0, none⟩)] w (IntsPost w (hopS L)) := by
  obtain ⟨t, m, S0, D, HA, hI, rfl⟩ := H
  obtain ⟨-, c1, -, -⟩ := HA.cells
  have hsz : Maps.size D ≤ 100000 := by
    rw [HA.uses.size]
    have := hI.like
    have := hI.h0
    omega
  have cS := sorted_calls w HA.map hsz
  have hpm := dd_perm HA.map HA.uses
  have CS := Lib.hid cS
  have HPM := Lib.hid hpm
  clear cS hpm HA hI
  go_enter Try.func22, Try.ntmps22
  go_wp2_with fail
  refine (keys_calls (some m) _).mono ?_
  rintro e w1 ⟨rfl, rfl⟩
  go_wp2_with fail
  refine CS.out.mono ?_
  rintro e w2 ⟨v, ss, rfl, hp, hrow, -, hb⟩
  have hms : ss.mergeSort leI = hopS L := mergeSort_of_perm_i (hp.trans HPM.out.symm)
  have hle : ss.length = (hopS L).length := by rw [← hms, List.length_mergeSort]
  have hr2 : w2.ownsRow w.heap.size 3 1 v (hopS L).length ((hopS L).map encZ) := by
    rw [← hle, ← hms]
    exact own_base hrow (by simp)
  have b2 : Below w.heap.size w w2 := ((Below.refl _ w).alloc (Nat.le_refl _) _).trans (hb.mono (by simp))
  have HR2 := Lib.hid hr2
  obtain ⟨A2, c2, rfl, -⟩ := own_val hr2
  clear hrow hr2 hb hp hms hle
  go_wp2
  go_ret
  exact ⟨_, rfl, HR2.out, b2⟩

end Go.Proofs.Ytnepmlhbheaonaa

namespace Go.Proofs.Ytnepmlhbheaonaa
open Go.RowKit Go.Maps
set_option maxRecDepth 100000

theorem int_row {w : World} {base n : Nat} {v : Value} {l : List Int} (h : w.ownsRow base 3 1 v n (l.map Go.encZ)) (hn : n = l.length) {k : Nat} (hk : k < l.length) : ∃ g c, v = .slice (some ⟨g, 0, none⟩) n c ∧ base ≤ g ∧ g < w.heap.size ∧ w.cell? ⟨g, k, none⟩ = some (.int .i64 l[k]) := by
  obtain ⟨g, cap, rfl, hb, hlt⟩ := h.form (by omega)
  refine ⟨g, cap, rfl, hb, hlt, ?_⟩
  rw [h.cellAt k (by omega), List.getElem?_map, List.getElem?_eq_getElem hk]
  rfl
set_option maxHeartbeats 2000000 in
theorem ints_yes (b1 b2 : Nat) (v1 v2 : Value) (l : List Int) (w : World) (h1 : w.ownsRow b1 3 1 v1 l.length (l.map Go.encZ)) (h2 : w.ownsRow b2 3 1 v2 l.length (l.map Go.encZ)) (hb : l.length ≤ 1000000000) :
    Calls Try.prog 26 #[v1, v2] w fun e w' => e = .returned (.bool true) ∧ Below w.heap.size w w' := by
  have H1 := Lib.hid h1
  have H2 := Lib.hid h2
  obtain ⟨A1, c1, rfl, -⟩ := own_val h1
  obtain ⟨A2, c2, rfl, -⟩ := own_val h2
  clear h1 h2
  go_enter Try.func26, Try.ntmps26
  go_wp2_with fail
  go_loopw [5] (fun i wr => ∃ k : Nat, k ≤ l.length ∧ i = .int .i64 k ∧ Below w.heap.size w wr) (fun i _ => l.length - (RowKit.intOf i).toNat)
  case atStart => exact ⟨0, Nat.zero_le _, rfl, Below.refl _ _⟩
  case round =>
    obtain ⟨k, hk, rfl, hB⟩ := hrel
    by_cases hlt : k < l.length
    · have hlt' : (k : Int) < (l.length : Int) := by omega
      have hk0 : (0 : Int) ≤ (k : Int) := by omega
      have hk9 : (k : Int) + 1 ≤ 1000000000 := by omega
      obtain ⟨g, cg, eg, -, hg, a0⟩ := int_row (own_fresh H1.out hB) rfl hlt
      simp only [Value.slice.injEq, true_and] at eg
      obtain ⟨rfl, rfl⟩ := eg
      obtain ⟨g', cg', eg', -, hg', b0⟩ := int_row (own_fresh H2.out hB) rfl hlt
      simp only [Value.slice.injEq, true_and] at eg'
      obtain ⟨rfl, rfl⟩ := eg'
      generalize l[k] = r at *
      obtain ⟨W, rfl⟩ : ∃ W, W = wr := ⟨_, rfl⟩
      have hz := hB.size
      have A0 := fun x : Later W.heap.size W => (x.cell (p := ⟨g, k, none⟩) hg).trans a0
      have B0 := fun x : Later W.heap.size W => (x.cell (p := ⟨g', k, none⟩) hg').trans b0
      clear a0 b0
      go_wp2_with fail
      refine region_later W.heap.size (by kernel_rfl) (by kernel_rfl) ?_
      repeat (go_big_quiet_step (fail))
      refine wpQuiet_nil ?_
      intro x
      have hx : Below w.heap.size w x.at := hB.trans (x.below.mono hz)
      clear A0 B0
      generalize x.at = w2 at *
      clear x
      go_wp2_with fail
      refine ⟨⟨k + 1, by omega, by go_num, hx⟩, by simp [RowKit.intOf]; omega⟩
    · obtain rfl : k = l.length := by omega
      have hlt' : ¬ (l.length : Int) < (l.length : Int) := by omega
      go_wp2
      go_ret
      exact ⟨rfl, hB⟩
theorem rdo_err {n h : Int} {x : Ac} {L : List Pr} {M : Nat} (he : rdoE n h x L ≠ 0) : rdoQ n h x L = L ∧ rdoM n h x L M = M := by
  unfold rdoE at he
  unfold rdoQ rdoM
  cases hx : x.out
  · rw [hx] at he
    simp only [Bool.false_eq_true, if_false] at he ⊢
    unfold addQ addM
    rw [if_neg he, if_neg he]
    exact ⟨rfl, rfl⟩
  · rw [hx] at he
    simp only [if_true] at he ⊢
    refine ⟨?_, trivial⟩
    unfold delE at he
    unfold delQ
    by_cases hp : psane x.p = true
    · rw [if_pos hp] at he ⊢
      cases hl : lk L x.p with
      | none => exact del_none hl
      | some v => rw [hl] at he; simp at he
    · rw [if_neg hp]
theorem rdo_bad (n h : Int) (x : Ac) (L : List Pr) : (rdoE n h x L == 1) = !psane x.p := by
  unfold rdoE delE addE
  cases hp : psane x.p
  · simp only [Bool.false_eq_true, if_false]
    cases x.out <;> rfl
  · simp only [if_true]
    cases x.out
    · simp only [Bool.false_eq_true, if_false]
      split
      · split <;> rfl
      · rfl
    · simp only [if_true]
      split <;> rfl
/-- A thing that is done lies in a block. -/
def OBox (w : World) (b : Nat) (x : Ac) : Prop := w.heap[b]? = some (.cells (ac6 x).toArray 52 (0, 0))
theorem OBox.frm {S : Nat → Prop} {w w' : World} {b : Nat} {x : Ac} (h : OBox w b x) (hf : Frm S w w') (hn : ¬ S b) : OBox w' b x := (hf.block b (lt_of_block h) hn).trans h
theorem OBox.keep {w w' : World} {b : Nat} {x : Ac} (h : OBox w b x) (hf : Below w.heap.size w w') : OBox w' b x := (hf.block b (lt_of_block h)).trans h
theorem OBox.cells {w : World} {b : Nat} {x : Ac} (h : OBox w b x) : w.cell? ⟨b, 0, none⟩ = some (.bool x.out) ∧ w.cell? ⟨b, 1, none⟩ = some (.int .u64 (u x.p.a.hi)) ∧ w.cell? ⟨b, 2, none⟩ = some (.int .u64 (u x.p.a.lo)) ∧ w.cell? ⟨b, 3, none⟩ = some (.bool x.p.a.v6) ∧ w.cell? ⟨b, 4, none⟩ = some (.int .i64 x.p.n) ∧ w.cell? ⟨b, 5, none⟩ = some (.int .i64 x.v) :=
  ⟨by rw [cell_row h]; rfl, by rw [cell_row h]; rfl, by rw [cell_row h]; rfl, by rw [cell_row h]; rfl, by rw [cell_row h]; rfl, by rw [cell_row h]; rfl⟩

set_option maxHeartbeats 8000000 in
theorem riberr_law (n h : Int) (A : Option Addr) (cap : Nat) (ls : List Ac) (o : Ac) (w : World) (hr : RdA w A ls) :
    Calls Try.prog 4 #[.int .i64 n, .int .i64 h, .slice A ls.length cap, .agg #[.bool o.out, .int .u64 (u o.p.a.hi), .int .u64 (u o.p.a.lo), .bool o.p.a.v6, .int .i64 o.p.n, .int .i64 o.v]] w fun e w' => e = .returned (.bool true) ∧ Below w.heap.size w w' := by
  have HRD := Lib.hid hr
  clear hr
  by_cases hlen : 60 < ls.length
  · have t0 : decide ((60 : Int) < (ls.length : Int)) = true := by simp; omega
    go_enter Try.func4, Try.ntmps4
    go_wp2_with fail
    refine (awake6_any _).mono ?_
    rintro e w1 ⟨rfl, hw1⟩
    have b1 : Below w.heap.size w w1 := below_of (by go_grown) hw1
    go_wp2
    go_ret
    exact ⟨rfl, b1⟩
  · have t0 : decide ((60 : Int) < (ls.length : Int)) = false := by simp; omega
    obtain ⟨B1, hB1⟩ : ∃ B, bits .and .i64 n 31 = B := ⟨_, rfl⟩
    obtain ⟨B2, hB2⟩ : ∃ B, bits .and .i64 h 7 = B := ⟨_, rfl⟩
    have k1 : 0 ≤ B1 ∧ B1 ≤ 31 := by rw [← hB1, i64_and5]; omega
    have k2 : 0 ≤ B2 ∧ B2 ≤ 7 := by rw [← hB2, i64_and3]; omega
    have kc1 : clampN B1 = B1 := by unfold clampN; omega
    have kc2 : clampH B2 = B2 := by unfold clampH; omega
    have cN := fun W => rib_new B1 B2 W
    unfold RNewPost at cN
    rw [kc1, kc2] at cN
    have CN := Lib.hid cN
    clear cN kc1 kc2
    go_enter Try.func4, Try.ntmps4
    go_wp2_with fail
    refine (awake6_any _).mono ?_
    rintro e w1 ⟨rfl, hw1⟩
    have b1 : Below w.heap.size w w1 := below_of (by go_grown) hw1
    have hO1 : OBox w1 w.heap.size o := OBox.keep (hp_new rfl) hw1
    have HO1 := Lib.hid hO1
    have z1 : w.heap.size < w1.heap.size := lt_of_block hO1
    clear hw1 hO1
    go_wp2_with fail
    refine (CN.out _).mono ?_
    rintro e w3 ⟨r, S3, rfl, hT3, hb3, hS3⟩
    have HO3 := Lib.hid (HO1.out.keep hb3)
    have b3 : Below w.heap.size w w3 := b1.trans (hb3.mono b1.size)
    have n3 : ∀ b, S3 b → w.heap.size + 1 ≤ b := fun b hb => by have := hS3 b hb; omega
    have z3 : w.heap.size + 1 ≤ w3.heap.size := by have := hb3.size; omega
    have HR3 := Lib.hid hT3
    have HN3 := Lib.hid n3
    clear hT3 n3 hS3 hb3 HO1 b1 CN
    go_wp2_with fail
    go_loopw [11] (fun i wr => RPlayRel w (w.heap.size + 1) r B1 B2 ls (fun W => OBox W w.heap.size o) i wr) (fun i _ => ls.length - (RowKit.intOf i).toNat)
    case atStart => exact ⟨0, S3, Nat.zero_le _, rfl, HR3.out, Nat.le_refl _, HN3.out, b3, z3, HO3.out⟩
    case round =>
      obtain ⟨k, S, hk, rfl, hR, hm, hN, hB, hz, hQ⟩ := hrel
      have HR6 := Lib.hid hR
      have HN := Lib.hid hN
      have HQ := Lib.hid hQ
      clear hR hN hQ HR3 HN3 HO3
      have HR := HRD
      by_cases hlt : k < ls.length
      · obtain ⟨g, off, rfl, hg, hc⟩ := HR.out (by intro e; rw [e] at hlt; cases hlt)
        obtain ⟨c0, c1, c2, c3, c4, c5⟩ := hc k hlt
        have d0 := (hB.cell (p := ⟨g, off + k * 6, none⟩) hg).trans c0
        have d1 := (hB.cell (p := ⟨g, off + k * 6 + 1, none⟩) hg).trans c1
        have d2 := (hB.cell (p := ⟨g, off + k * 6 + 2, none⟩) hg).trans c2
        have d3 := (hB.cell (p := ⟨g, off + k * 6 + 3, none⟩) hg).trans c3
        have d4 := (hB.cell (p := ⟨g, off + k * 6 + 4, none⟩) hg).trans c4
        have d5 := (hB.cell (p := ⟨g, off + k * 6 + 5, none⟩) hg).trans c5
        clear c0 c1 c2 c3 c4 c5 hc
        obtain ⟨xc, hxc⟩ : ∃ xc, ls[k] = xc := ⟨_, rfl⟩
        rw [hxc] at d0 d1 d2 d3 d4 d5
        have HXX := Lib.hid hxc
        clear hxc
        go_wp2_with fail
        refine (rdo_any HR6.out (by omega) xc).mono ?_
        rintro e w6 ⟨⟨rfl, S6, g1, g2, g3⟩, g4⟩
        rw [← HXX.out] at g1 g4
        obtain ⟨r1, r2, r3, r4, r5, r6⟩ := rplay_next hlt HN.out hz (by omega) hB g1 g2 g3 g4 hm
        have hQ1 := HQ.out.frm g2 (fun e => by have := HN.out _ e; omega)
        have R1 := Lib.hid r1
        have R3 := Lib.hid r3
        clear g1 g2 g3 g4 r1 r3 r6 d0 d1 d2 d3 d4 d5
        go_wp2
        go_roundw
        case rel => exact ⟨k + 1, S6, by omega, by go_num, R1.out, r2, R3.out, r4, r5, hQ1⟩
        case measure => simp [RowKit.intOf]; omega
      · have t1 : decide (k < ls.length) = false := by simp; omega
        have hM : (rplayK B1 B2 ls k).2 ≤ 20000 := by omega
        generalize (rplayK B1 B2 ls k).1 = L at HR6
        generalize (rplayK B1 B2 ls k).2 = M at HR6 hM
        have hI := HR6.out.inv
        have hll : L.length ≤ 4096 := by have := hI.few; have := hI.n0; omega
        have HLT := Lib.hid HR6.out.lt
        clear hI hm HR HRD b3 t0
        go_wp2_with fail
        refine (rib_dump HR6.out).mono ?_
        rintro e w4 ⟨v4, rfl, ho4, hw4⟩
        have b4 := hB.trans (hw4.mono (by omega))
        have HR4 := Lib.hid (HR6.out.keep hw4)
        have HQ4 := Lib.hid (HQ.out.keep hw4)
        have HO4 := Lib.hid ho4
        have hnd : ∀ b, v4.ownBlock = some b → ¬ S b := fun b hb e => by have h1 := (ho4.lt b hb).1; have := HLT.out b e; omega
        have HND := Lib.hid hnd
        obtain ⟨A4, c4, rfl, -⟩ := own_val ho4
        clear ho4 hw4 hnd HR6 HQ hB
        go_wp2_with fail
        refine (rib_size HR4.out).mono ?_
        rintro e w5 ⟨rfl, hw5⟩
        have b5 := b4.trans (hw5.mono b4.size)
        have HR5 := Lib.hid (HR4.out.keep hw5)
        have HQ5 := Lib.hid (HQ4.out.keep hw5)
        have HO5 := Lib.hid (own_fresh HO4.out hw5)
        clear hw5 HR4 HQ4 HO4
        go_wp2_with fail
        refine (rib_hops HR5.out).mono ?_
        rintro e w6 ⟨v6, rfl, ho6, hw6⟩
        have b6 := b5.trans (hw6.mono b5.size)
        have HR6 := Lib.hid (HR5.out.keep hw6)
        have HQ6 := Lib.hid (HQ5.out.keep hw6)
        have HO6 := Lib.hid (own_fresh HO5.out hw6)
        have HH6 := Lib.hid ho6
        have hnh : ∀ b, v6.ownBlock = some b → ¬ S b := fun b hb e => by have h1 := (ho6.lt b hb).1; have := HR5.out.lt b e; omega
        have HNH := Lib.hid hnh
        obtain ⟨A6, c6, rfl, -⟩ := own_val ho6
        have z6 := b6.size
        obtain ⟨o0, o1, o2, o3, o4, o5⟩ := HQ6.out.cells
        clear ho6 hw6 hnh HR5 HQ5 HO5
        go_wp2_with fail
        refine (rdo_any HR6.out (by omega) o).mono ?_
        rintro e w7 ⟨⟨rfl, S7, g1, g2, g3⟩, g4⟩
        have b7 := b6.trans (g2.below (fun b hb => by have := HN.out b hb; omega) b6.size)
        have HR7 := Lib.hid g1
        have HQ7 := Lib.hid (HQ6.out.frm g2 (fun e => by have := HN.out _ e; omega))
        have HO7 := Lib.hid (own_frm HO6.out g2 HND.out)
        have HH7 := Lib.hid (own_frm HH6.out g2 HNH.out)
        have hI7 := HR7.out.inv
        clear g1 g2 g3 g4 HR6 HQ6 HO6 HH6 o0 o1 o2 o3 o4 o5
        have hbad := rdo_bad B1 B2 o L
        have herr := fun he => @rdo_err B1 B2 o L M he
        obtain ⟨L', hL'⟩ : ∃ L', rdoQ B1 B2 o L = L' := ⟨_, rfl⟩
        obtain ⟨M', hM'⟩ : ∃ M', rdoM B1 B2 o L M = M' := ⟨_, rfl⟩
        obtain ⟨E, hE⟩ : ∃ E, rdoE B1 B2 o L = E := ⟨_, rfl⟩
        rw [hL', hM'] at HR7 herr
        rw [hL'] at hI7
        rw [hE] at hbad herr ⊢
        have f1 := hI7.few
        have f2 := hI7.like
        rw [← hopS_len L'] at f2
        have HERR := Lib.hid herr
        have HBAD := Lib.hid hbad
        clear hL' hM' hE hbad herr hI7
        go_wp2_with fail
        refine (rib_size HR7.out).mono ?_
        rintro e w8 ⟨rfl, hw8⟩
        have b8 := b7.trans (hw8.mono b7.size)
        have HR8 := Lib.hid (HR7.out.keep hw8)
        have HQ8 := Lib.hid (HQ7.out.keep hw8)
        have HO8 := Lib.hid (own_fresh HO7.out hw8)
        have HH8 := Lib.hid (own_fresh HH7.out hw8)
        clear hw8 HR7 HQ7 HO7 HH7
        by_cases hE0 : E = 0
        · subst hE0
          have hp : psane o.p = true := by
            have := HBAD.out
            cases hq : psane o.p
            · rw [hq] at this
              cases this
            · rfl
          have t4 : decide ((L'.length : Int) ≤ B1) = true := decide_eq_true f1
          have t5 : decide (((hopS L').length : Int) ≤ B2) = true := decide_eq_true f2
          clear HERR HBAD HO8 HH8
          obtain ⟨o0, o1, o2, o3, o4, o5⟩ := HQ8.out.cells
          go_wp2_with fail
          refine (psane_any o.p _).mono ?_
          rintro e x1 ⟨rfl, hx1⟩
          have d1 := b8.trans (hx1.mono b8.size)
          have HRa := Lib.hid (HR8.out.keep hx1)
          clear hx1 o0 o1 o2 o3 o4 o5
          go_wp2_with fail
          refine (rib_dump HRa.out).mono ?_
          rintro e x2 ⟨u2, rfl, ho2, hx2⟩
          have d2 := d1.trans (hx2.mono d1.size)
          have HRb := Lib.hid (HRa.out.keep hx2)
          obtain ⟨C2, q2, rfl, -⟩ := own_val ho2
          clear hx2 ho2 HRa
          go_wp2_with fail
          refine (rib_hops HRb.out).mono ?_
          rintro e x3 ⟨u3, rfl, ho3, hx3⟩
          have d3 := d2.trans (hx3.mono d2.size)
          obtain ⟨C3, q3, rfl, -⟩ := own_val ho3
          clear hx3 ho3 HRb
          go_wp2
          go_ret
          exact ⟨rfl, d3⟩
        · obtain ⟨e1, e2⟩ := HERR.out hE0
          subst e1 e2
          have tE : (E != 0) = true := by simp [hE0]
          have tE2 := HBAD.out
          have t4 : decide ((L'.length : Int) ≤ B1) = true := decide_eq_true f1
          have t5 : decide (((hopS L').length : Int) ≤ B2) = true := decide_eq_true f2
          have hhl : (hopS L').length ≤ 1000000000 := by omega
          clear HERR HBAD hE0
          go_wp2_with fail
          refine (rib_dump HR8.out).mono ?_
          rintro e w9 ⟨v9, rfl, ho9, hw9⟩
          have b9 := b8.trans (hw9.mono b8.size)
          have HR9 := Lib.hid (HR8.out.keep hw9)
          have HQ9 := Lib.hid (HQ8.out.keep hw9)
          have HO9 := Lib.hid (own_fresh HO8.out hw9)
          have HH9 := Lib.hid (own_fresh HH8.out hw9)
          have HD9 := Lib.hid ho9
          obtain ⟨A9, c9, rfl, -⟩ := own_val ho9
          clear ho9 hw9 HR8 HQ8 HO8 HH8
          go_wp2_with fail
          refine (rsame_yes _ _ _ _ L' _ HO9.out HD9.out (by omega)).mono ?_
          rintro e w10 ⟨rfl, hw10⟩
          have b10 := b9.trans (hw10.mono b9.size)
          have HR10 := Lib.hid (HR9.out.keep hw10)
          have HQ10 := Lib.hid (HQ9.out.keep hw10)
          have HH10 := Lib.hid (own_fresh HH9.out hw10)
          clear hw10 HR9 HQ9 HO9 HH9 HD9
          go_wp2_with fail
          refine (rib_hops HR10.out).mono ?_
          rintro e w11 ⟨v11, rfl, ho11, hw11⟩
          have b11 := b10.trans (hw11.mono b10.size)
          have HR11 := Lib.hid (HR10.out.keep hw11)
          have HQ11 := Lib.hid (HQ10.out.keep hw11)
          have HH11 := Lib.hid (own_fresh HH10.out hw11)
          have HI11 := Lib.hid ho11
          obtain ⟨A11, c11, rfl, -⟩ := own_val ho11
          clear ho11 hw11 HR10 HQ10 HH10
          go_wp2_with fail
          refine (ints_yes _ _ _ _ (hopS L') _ HH11.out HI11.out hhl).mono ?_
          rintro e w12 ⟨rfl, hw12⟩
          have b12 := b11.trans (hw12.mono b11.size)
          have HR12 := Lib.hid (HR11.out.keep hw12)
          have HQ12 := Lib.hid (HQ11.out.keep hw12)
          clear hw12 HR11 HQ11 HH11 HI11
          cases hp : psane o.p
          · rw [hp] at tE2
            have tE3 : (E == 1) = true := tE2
            clear tE2
            obtain ⟨o0, o1, o2, o3, o4, o5⟩ := HQ12.out.cells
            go_wp2_with fail
            refine (psane_any o.p _).mono ?_
            rintro e x1 ⟨rfl, hx1⟩
            have d1 := b12.trans (hx1.mono b12.size)
            have HRa := Lib.hid (HR12.out.keep hx1)
            clear hx1 o0 o1 o2 o3 o4 o5
            go_wp2_with fail
            refine (rib_dump HRa.out).mono ?_
            rintro e x2 ⟨u2, rfl, ho2, hx2⟩
            have d2 := d1.trans (hx2.mono d1.size)
            have HRb := Lib.hid (HRa.out.keep hx2)
            obtain ⟨C2, q2, rfl, -⟩ := own_val ho2
            clear hx2 ho2 HRa
            go_wp2_with fail
            refine (rib_hops HRb.out).mono ?_
            rintro e x3 ⟨u3, rfl, ho3, hx3⟩
            have d3 := d2.trans (hx3.mono d2.size)
            obtain ⟨C3, q3, rfl, -⟩ := own_val ho3
            clear hx3 ho3 HRb
            go_wp2
            go_ret
            exact ⟨rfl, d3⟩
          · rw [hp] at tE2
            have tE3 : (E == 1) = false := tE2
            clear tE2
            obtain ⟨o0, o1, o2, o3, o4, o5⟩ := HQ12.out.cells
            go_wp2_with fail
            refine (psane_any o.p _).mono ?_
            rintro e x1 ⟨rfl, hx1⟩
            have d1 := b12.trans (hx1.mono b12.size)
            have HRa := Lib.hid (HR12.out.keep hx1)
            clear hx1 o0 o1 o2 o3 o4 o5
            go_wp2_with fail
            refine (rib_dump HRa.out).mono ?_
            rintro e x2 ⟨u2, rfl, ho2, hx2⟩
            have d2 := d1.trans (hx2.mono d1.size)
            have HRb := Lib.hid (HRa.out.keep hx2)
            obtain ⟨C2, q2, rfl, -⟩ := own_val ho2
            clear hx2 ho2 HRa
            go_wp2_with fail
            refine (rib_hops HRb.out).mono ?_
            rintro e x3 ⟨u3, rfl, ho3, hx3⟩
            have d3 := d2.trans (hx3.mono d2.size)
            obtain ⟨C3, q3, rfl, -⟩ := own_val ho3
            clear hx3 ho3 HRb
            go_wp2
            go_ret
            exact ⟨rfl, d3⟩

end Go.Proofs.Ytnepmlhbheaonaa

namespace Go.Proofs.Ytnepmlhbheaonaa
set_option maxRecDepth 100000
open Go.ChangeShapes Go.WideShapes Go.ChangeAt Go.RowKit Go.Joins Go.Deep

theorem open_ac6 {H : Type} {enc : TypeId × Value → H} {W : World} {base b0 : Nat} {spare : Nat → Bool} {held : Bool} {r : Reach} {v : Value} {d : DataW H} {p : List MemPlace}
    (hv : Value.okWide Try.prog W r b0 52 v) (h : DataW.Trod enc Try.prog W base spare held 52 v d p) :
    ∃ a : Ac, v = .agg #[.bool a.out, .int .u64 (u a.p.a.hi), .int .u64 (u a.p.a.lo), .bool a.p.a.v6, .int .i64 a.p.n, .int .i64 a.v] := by
  obtain ⟨cs, rfl, hsz⟩ := okWide_struct Try.underlying52 hv
  obtain ⟨cs⟩ := cs
  have hl : cs.length = 6 := hsz.trans (show Try.prog.cellsOf 52 = 6 by kernel_rfl)
  obtain ⟨fuel, hf⟩ := h
  have hf' : DataW.trod enc Try.prog W base spare held fuel 52 cs = some (d, p) := by simpa [Value.cells] using hf
  obtain ⟨a, rfl⟩ := ac_cells6 hl hf'
  exact ⟨a, rfl⟩

end Go.Proofs.Ytnepmlhbheaonaa

namespace Go.Proofs.Ytnepmlhbheaonaa
open Go.ChangeShapes Go.WideShapes Go.ChangeAt Go.RowKit

set_option maxRecDepth 100000 in
theorem ribErrors_lifted (os : Os) (started : os.Started) (H : Type) (enc : TypeId × Value → H) :
    ReturnsInHanded {} Try.checked os 4 .any (Rows.ribErrorsSpec.pre6 enc Try.prog Try.f4 Rows.ribErrorsRow.domain false) (Rows.ribErrorsSpec.post enc Try.prog Try.f4 false true false false) := by
  refine returnsInHanded_of_change (C := Try.checked) own started (by kernel_rfl) Try.func4
    (ChangeSpec.witness6 (enc := enc) (C := Try.checked) false ⟨#[], #[.int .i64 0, .int .i64 0, .slice none 0 0, .agg #[.bool false, .int .u64 0, .int .u64 0, .bool false, .int .i64 0, .int .i64 0]], []⟩ 8 (by kernel_rfl) (by kernel_rfl) (by kernel_rfl) (by kernel_rfl)) ?_
  intro W base args ds gs before hval0 hW hcnd _
  have hval : ∀ (j : Nat) t v, Try.f4.params[j]? = some t → args[j]? = some v → Value.okWide Try.prog W .any base t v := hval0
  have hW' := hW
  obtain ⟨p, q, hA0, hV, rfl, hfz, hnd⟩ := hW
  have hA : DataW.TrodAll enc Try.prog W 0 (fun _ => true) true Try.f4.params.toList args.toList ds p := hA0
  rw [Try.params4] at hA hval
  obtain ⟨v0, vs0, d0, ds0, p0, q0, hargs, rfl, rfl, h0, r0⟩ := trodAll_cons hA
  obtain ⟨v1, vs1, d1, ds1, p1, q1, rfl, rfl, rfl, h1, r1⟩ := trodAll_cons r0
  obtain ⟨v2, vs2, d2, ds2, p2, q2, rfl, rfl, rfl, h2, r2⟩ := trodAll_cons r1
  obtain ⟨v3, vs3, d3, ds3, p3, q3, rfl, rfl, rfl, h3, r3⟩ := trodAll_cons r2
  obtain ⟨rfl, rfl, rfl⟩ := trodAll_nil r3
  obtain rfl : args = #[v0, v1, v2, v3] := by cases args; simp_all
  obtain ⟨rfl, rfl⟩ := trodVars_none hV
  have lt0 : ∀ x ∈ p0, x.block < W.heap.size := by obtain ⟨m, hm⟩ := h0; exact DataW.trod_lt m _ _ _ hm
  have k0 := h0
  obtain ⟨a0, rfl, e0, f0, w0⟩ := open_int Try.underlying3 (hval 0 3 v0 rfl rfl) h0
  have lt1 : ∀ x ∈ p1, x.block < W.heap.size := by obtain ⟨m, hm⟩ := h1; exact DataW.trod_lt m _ _ _ hm
  have k1 := h1
  obtain ⟨a1, rfl, e1, f1, w1⟩ := open_int Try.underlying3 (hval 1 3 v1 rfl rfl) h1
  have lt2 : ∀ x ∈ p2, x.block < W.heap.size := by obtain ⟨m, hm⟩ := h2; exact DataW.trod_lt m _ _ _ hm
  obtain ⟨A2, cap2, l2, rfl, w2⟩ := open_acs6 (hval 2 50 v2 rfl rfl) h2 (fun _ => rfl)
  have lt3 : ∀ x ∈ p3, x.block < W.heap.size := by obtain ⟨m, hm⟩ := h3; exact DataW.trod_lt m _ _ _ hm
  obtain ⟨a3, rfl⟩ := open_ac6 (hval 3 52 v3 rfl rfl) h3
  clear hA0 hval0
  refine (riberr_law a0 a1 A2 cap2 l2 a3 W w2).mono fun e W' ⟨he, bel⟩ => ?_
  subst he
  exact ⟨_, rfl, _, _, _, [], _, [], hW', trodAll_mk1 (shut_bool Try.underlying4 _), (trodAll_cons_mk (Below.trod laidOut (by kernel_rfl) (of_decide_eq_true (by kernel_rfl)) h0 bel lt0) (trodAll_cons_mk (Below.trod laidOut (by kernel_rfl) (of_decide_eq_true (by kernel_rfl)) h1 bel lt1) (trodAll_cons_mk (Below.trod laidOut (by kernel_rfl) (of_decide_eq_true (by kernel_rfl)) h2 bel lt2) (trodAll_cons_mk (Below.trod laidOut (by kernel_rfl) (of_decide_eq_true (by kernel_rfl)) h3 bel lt3) trodAll_mk0)))), rfl, bel.frame _, fun h => by cases h⟩

theorem ribErrors_holds : Rows.RibErrorsSaid :=
  OpenClaim.holds_of_wide 4 Try.f4 rfl rfl rfl rfl rfl rfl rfl ⟨rfl, rfl, rfl, rfl, rfl⟩ rfl rfl rfl rfl rfl (by kernel_rfl) Try.func4 (by kernel_rfl)
    (of_decide_eq_true (by kernel_rfl)) (by unfold Func.isWrapper; first | (rw [if_pos (by decide +kernel)]; kernel_rfl) | (rw [if_neg (by decide +kernel)]; exact ⟨rfl, rfl⟩))
    (fun os started H enc _ => ribErrors_lifted os started H enc)

end Go.Proofs.Ytnepmlhbheaonaa
