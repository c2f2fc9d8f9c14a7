/-
  Routes added one behind the other with the document's answer, from none on. Condition: the list lies where the argument says.
-/
import Derived.Test.YtnmjofccedjkkaaK1
import Derived.Test.YtnmjofccedjkkaaRefA
import Derived.Test.YtnmjofccedjkkaaR1
import Derived.Deep.DeepCutAuto
import Derived.Deep.RegionHeld3
namespace Go.Proofs.Ytnmjofccedjkkaa
open Go.RowKit Go.Maps
set_option maxRecDepth 100000

theorem common_nn (a b : Ad) : 0 ≤ commonv a b := by
  by_cases hv : a.v6 = b.v6
  · exact (common_facts a b hv).1
  · rw [common_kind a b hv]
    omega
theorem comm_bdd (r : List Pr) (x : Pf) (hr : ∀ y ∈ r, psane y.p = true) (hx : psane x = true) : 0 ≤ comm r x ∧ comm r x ≤ x.n := by
  have h1 := psane_bd hx
  cases r with
  | nil => exact ⟨Int.le_refl _, h1.1⟩
  | cons a r =>
    have h2 := psane_bd (hr a (List.mem_cons_self ..))
    have h3 := common_nn a.p.a x.a
    simp only [comm]
    omega
theorem nodesR_bd (r : List Pr) (h : ∀ y ∈ r, psane y.p = true) : 2 ≤ nodesR r ∧ nodesR r ≤ 2 + 128 * (r.length : Int) := by
  induction r with
  | nil => exact ⟨by decide, by decide⟩
  | cons x r ih =>
    have i := ih (fun y hy => h y (List.mem_cons_of_mem _ hy))
    have c := comm_bdd r x.p (fun y hy => h y (List.mem_cons_of_mem _ hy)) (h x (List.mem_cons_self ..))
    have b := psane_bd (h x (List.mem_cons_self ..))
    have w := (wid_bd x.p.a.v6).2
    simp only [nodesR, List.length_cons]
    omega
theorem nodes_bd (L : List Pr) (h : ∀ y ∈ L, psane y.p = true) : 2 ≤ nodesL L ∧ nodesL L ≤ 2 + 128 * (L.length : Int) := by
  have := nodesR_bd L.reverse (fun y hy => h y (List.mem_reverse.1 hy))
  rwa [List.length_reverse] at this
theorem nodes_zero (L : List Pr) : nodesL (L.take 0) = 2 := rfl
theorem nodes_one (L : List Pr) (h : 0 < L.length) : nodesL (L.take 1) = 2 + L[0].p.n := by
  cases L with
  | nil => cases h
  | cons x r =>
    show 2 + x.p.n - 0 = _
    simp
theorem nodes_succ (L : List Pr) {k j : Nat} (hk : k < L.length) (hj : k = j + 1) : nodesL (L.take (k + 1)) = nodesL (L.take k) + L[k].p.n - min (min L[j].p.n L[k].p.n) (commonv L[j].p.a L[k].p.a) := by
  subst hj
  unfold nodesL
  rw [List.take_succ_eq_append_getElem hk, List.reverse_append]
  have e : (L.take (j + 1)).reverse = L[j] :: (L.take j).reverse := by
    rw [List.take_succ_eq_append_getElem (by omega), List.reverse_append]
    rfl
  show nodesR (L[j + 1] :: (L.take (j + 1)).reverse) = _
  rw [e]
  rfl

section
variable {w : World} {A : Option Addr} {c : Nat} {L : List Pr}
set_option maxHeartbeats 4000000 in
theorem knodes_any (hr : RdQ w A L) (hsn : ∀ x ∈ L, psane x.p = true) (hl : L.length ≤ 100000) (most : Int) : Calls Try.prog 87 #[.agg #[.slice A L.length c, .int .i64 most]] w fun e w' => e = .returned (.int .i64 (nodesL L)) ∧ Below w.heap.size w w' := by
  have HRD := Lib.hid hr
  have HSN := Lib.hid hsn
  clear hr hsn
  obtain ⟨R, hR⟩ : ∃ R, nodesL L = R := ⟨_, rfl⟩
  rw [hR]
  have HR := Lib.hid hR
  clear hR
  go_enter Try.func87, Try.ntmps87
  go_wp2_with fail
  generalize hW : World.alloc _ _ = W
  have hz : w.heap.size ≤ W.heap.size := by subst hW; go_size
  have hB : Below w.heap.size w W := by subst hW; go_grown
  have hK : KBox W w.heap.size A L.length c most := by subst hW; exact (by refine ⟨?_, ?_, ?_⟩ <;> first | (go_simp; done) | (go_simp <;> rfl) | go_size)
  have HK := Lib.hid hK
  have z2 : w.heap.size < W.heap.size := hK.2.2
  clear hW hK
  obtain ⟨W0, rfl⟩ : ∃ W0, W0 = W := ⟨_, rfl⟩
  go_loopw [3, 4] (fun v i wr => ∃ k : Nat, k ≤ L.length ∧ i = .int .i64 k ∧ v = .int .i64 (nodesL (L.take k)) ∧ Below W0.heap.size W0 wr) (fun _ i _ => L.length - (RowKit.intOf i).toNat)
  case atStart => exact ⟨0, Nat.zero_le _, rfl, rfl, Below.refl _ _⟩
  case round =>
    obtain ⟨k, hk, rfl, rfl, hBj⟩ := hrel
    have hB := hB.trans (hBj.mono hz)
    obtain ⟨t0, t1, tz⟩ := id (HK.out.keep hBj)
    clear HK
    by_cases hlt : k < L.length
    · -- as rdq5, but all the cells' facts stay (hc)
      obtain ⟨g, off, rfl, hg, hc⟩ := HRD.out (by intro e; rw [e] at hlt; cases hlt)
      obtain ⟨c0, c1, c2, c3, c4⟩ := hc k hlt
      have d0 := (hB.cell (p := ⟨g, off + k * 5, none⟩) hg).trans c0
      have d1 := (hB.cell (p := ⟨g, off + k * 5 + 1, none⟩) hg).trans c1
      have d2 := (hB.cell (p := ⟨g, off + k * 5 + 2, none⟩) hg).trans c2
      have d3 := (hB.cell (p := ⟨g, off + k * 5 + 3, none⟩) hg).trans c3
      have d4 := (hB.cell (p := ⟨g, off + k * 5 + 4, none⟩) hg).trans c4
      have gz : g < wr.heap.size := Nat.lt_of_lt_of_le hg hB.size
      have HC := Lib.hid hc
      clear c0 c1 c2 c3 c4 hc
      have hnb := nodes_bd (L.take k) (fun y hy => HSN.out y (List.mem_of_mem_take hy))
      have hyb := psane_bd (HSN.out L[k] (List.getElem_mem hlt))
      have hyw := (wid_bd L[k].p.a.v6).2
      rw [List.length_take] at hnb
      have hxx : 0 ≤ L[k].p.n ∧ L[k].p.n ≤ 128 := by omega
      have hn1 := @nodes_one L
      have hn2 := fun j => @nodes_succ L k j hlt
      have hn3 : 2 ≤ nodesL (L.take k) ∧ nodesL (L.take k) ≤ 20000000 := by omega
      obtain ⟨y, hy⟩ : ∃ y, L[k] = y := ⟨_, rfl⟩
      obtain ⟨n0, hn0⟩ : ∃ n0, nodesL (L.take k) = n0 := ⟨_, rfl⟩
      rw [hy] at d0 d1 d2 d3 d4 hn2 hxx
      rw [hn0] at hn2 hn3 ⊢
      have HN0 := Lib.hid hn0
      have HY := Lib.hid hy
      clear hyb hyw hnb hn0 hy
      rcases Nat.eq_zero_or_pos k with hk0 | hk0
      · subst hk0
        have hn4 : nodesL (L.take (0 + 1)) = n0 + y.p.n := by
          have h1 := hn1 hlt
          rw [HY.out] at h1
          rw [← HN0.out]
          exact h1
        have HN4 := Lib.hid hn4
        clear hn1 hn2 hn4 HN0
        go_wp2
        go_roundw
        case rel => exact ⟨0 + 1, by omega, by go_num, by rw [HN4.out], hBj⟩
        case measure => simp [RowKit.intOf]; omega
      · obtain ⟨j, hj⟩ : ∃ j, k = j + 1 := ⟨k - 1, by omega⟩
        have hjl : j < L.length := by omega
        obtain ⟨f0, f1, f2, f3, f4⟩ := HC.out j hjl
        replace f0 := (hB.cell (p := ⟨g, off + j * 5, none⟩) hg).trans f0
        replace f1 := (hB.cell (p := ⟨g, off + j * 5 + 1, none⟩) hg).trans f1
        replace f2 := (hB.cell (p := ⟨g, off + j * 5 + 2, none⟩) hg).trans f2
        replace f3 := (hB.cell (p := ⟨g, off + j * 5 + 3, none⟩) hg).trans f3
        have hn5 := hn2 j hj
        have hzb := psane_bd (HSN.out L[j] (List.getElem_mem hjl))
        have hzw := (wid_bd L[j].p.a.v6).2
        have hzz : 0 ≤ L[j].p.n ∧ L[j].p.n ≤ 128 := by omega
        obtain ⟨z, hz'⟩ : ∃ z, L[j] = z := ⟨_, rfl⟩
        rw [hz'] at f0 f1 f2 f3 hn5 hzz
        have hcn := common_nn z.p.a y.p.a
        have cc := refCommon_any z.p.a y.p.a
        obtain ⟨cm, hcm⟩ : ∃ cm, commonv z.p.a y.p.a = cm := ⟨_, rfl⟩
        rw [hcm] at hcn cc hn5
        have CC := Lib.hid cc
        have HN5 := Lib.hid hn5
        have hkj : (k : Int) - 1 = (j : Int) := by omega
        have kt : decide (0 < (k : Int)) = true := by simp; omega
        have HKJ := Lib.hid hj
        clear hn1 hn2 hn5 hzb hzw hz' hcm cc f4 HC HN0 HSN HY hj
        go_upto_region 8 with fail
        generalize hW : World.alloc _ _ = W
        have hBW : Below wr.heap.size wr W := by subst hW; go_grown
        have hP : PBox W wr.heap.size z.p := by subst hW; exact ⟨by go_simp <;> rfl, by go_simp <;> rfl, by go_simp <;> rfl, by go_simp <;> rfl, by go_simp <;> rfl, by go_simp <;> rfl, by go_simp <;> rfl, by go_simp <;> rfl, by go_size⟩
        have b1 := hBj.trans (hBW.mono hBj.size)
        obtain ⟨pa, pb, pc, pg, -, -, -, -, pz⟩ := id hP
        replace t0 := (hBW.cell tz).trans t0
        replace d0 := (hBW.cell (p := ⟨g, off + k * 5, none⟩) gz).trans d0
        replace d1 := (hBW.cell (p := ⟨g, off + k * 5 + 1, none⟩) gz).trans d1
        replace d2 := (hBW.cell (p := ⟨g, off + k * 5 + 2, none⟩) gz).trans d2
        replace d3 := (hBW.cell (p := ⟨g, off + k * 5 + 3, none⟩) gz).trans d3
        replace d4 := (hBW.cell (p := ⟨g, off + k * 5 + 4, none⟩) gz).trans d4
        replace tz := Nat.lt_of_lt_of_le tz hBW.size
        replace gz := Nat.lt_of_lt_of_le gz hBW.size
        clear hW hP f0 f1 f2 f3 t1 hBW
        have Ld0 := fun x : Later W.heap.size W => (x.cell (p := ⟨g, off + k * 5, none⟩) gz).trans d0
        have Ld1 := fun x : Later W.heap.size W => (x.cell (p := ⟨g, off + k * 5 + 1, none⟩) gz).trans d1
        have Ld2 := fun x : Later W.heap.size W => (x.cell (p := ⟨g, off + k * 5 + 2, none⟩) gz).trans d2
        have Ld3 := fun x : Later W.heap.size W => (x.cell (p := ⟨g, off + k * 5 + 3, none⟩) gz).trans d3
        have Ld4 := fun x : Later W.heap.size W => (x.cell (p := ⟨g, off + k * 5 + 4, none⟩) gz).trans d4
        have Lt0 := fun x : Later W.heap.size W => (x.cell tz).trans t0
        have Lpa := fun x : Later W.heap.size W => (x.cell pz).trans pa
        have Lpb := fun x : Later W.heap.size W => (x.cell pz).trans pb
        have Lpc := fun x : Later W.heap.size W => (x.cell pz).trans pc
        have Lpg := fun x : Later W.heap.size W => (x.cell pz).trans pg
        by_cases c1 : y.p.n < z.p.n
        · by_cases c2 : cm < y.p.n
          · have hm : min (min z.p.n y.p.n) cm = cm := by omega
            have HM : Hid (nodesL (L.take (k + 1)) = n0 + y.p.n - cm) := Lib.hid (by rw [HN5.out, hm])
            have hrr : 0 ≤ cm ∧ cm ≤ 128 := by omega
            clear hm HN5
            refine region_later W.heap.size (by kernel_rfl) (by kernel_rfl) ?_
            repeat (go_big_quiet_step ((go_at_call 117; exact later_of (Nat.le_refl _) (CC.out _))))
            refine wpQuiet_nil ?_
            intro x
            have hx := x.below
            generalize x.at = V at hx ⊢
            clear x Ld0 Ld1 Ld2 Ld3 Ld4 Lt0 Lpa Lpb Lpc Lpg d0 d1 d2 d3 d4 t0 pa pb pc pg
            have bV := b1.trans (hx.mono b1.size)
            clear hx hkj kt
            go_wp2
            go_roundw
            case rel => exact ⟨k + 1, by omega, by go_num, by (first | (rw [HM.out]; done) | (rw [HM.out]; congr 1; omega)), bV⟩
            case measure => simp [RowKit.intOf]; omega
          · have hm : min (min z.p.n y.p.n) cm = y.p.n := by omega
            have HM : Hid (nodesL (L.take (k + 1)) = n0 + y.p.n - y.p.n) := Lib.hid (by rw [HN5.out, hm])
            have hrr : 0 ≤ y.p.n ∧ y.p.n ≤ 128 := by omega
            clear hm HN5
            refine region_later W.heap.size (by kernel_rfl) (by kernel_rfl) ?_
            repeat (go_big_quiet_step ((go_at_call 117; exact later_of (Nat.le_refl _) (CC.out _))))
            refine wpQuiet_nil ?_
            intro x
            have hx := x.below
            generalize x.at = V at hx ⊢
            clear x Ld0 Ld1 Ld2 Ld3 Ld4 Lt0 Lpa Lpb Lpc Lpg d0 d1 d2 d3 d4 t0 pa pb pc pg
            have bV := b1.trans (hx.mono b1.size)
            clear hx hkj kt
            go_wp2
            go_roundw
            case rel => exact ⟨k + 1, by omega, by go_num, by (first | (rw [HM.out]; done) | (rw [HM.out]; congr 1; omega)), bV⟩
            case measure => simp [RowKit.intOf]; omega
        · by_cases c2 : cm < z.p.n
          · have hm : min (min z.p.n y.p.n) cm = cm := by omega
            have HM : Hid (nodesL (L.take (k + 1)) = n0 + y.p.n - cm) := Lib.hid (by rw [HN5.out, hm])
            have hrr : 0 ≤ cm ∧ cm ≤ 128 := by omega
            clear hm HN5
            refine region_later W.heap.size (by kernel_rfl) (by kernel_rfl) ?_
            repeat (go_big_quiet_step ((go_at_call 117; exact later_of (Nat.le_refl _) (CC.out _))))
            refine wpQuiet_nil ?_
            intro x
            have hx := x.below
            generalize x.at = V at hx ⊢
            clear x Ld0 Ld1 Ld2 Ld3 Ld4 Lt0 Lpa Lpb Lpc Lpg d0 d1 d2 d3 d4 t0 pa pb pc pg
            have bV := b1.trans (hx.mono b1.size)
            clear hx hkj kt
            go_wp2
            go_roundw
            case rel => exact ⟨k + 1, by omega, by go_num, by (first | (rw [HM.out]; done) | (rw [HM.out]; congr 1; omega)), bV⟩
            case measure => simp [RowKit.intOf]; omega
          · have hm : min (min z.p.n y.p.n) cm = z.p.n := by omega
            have HM : Hid (nodesL (L.take (k + 1)) = n0 + y.p.n - z.p.n) := Lib.hid (by rw [HN5.out, hm])
            have hrr : 0 ≤ z.p.n ∧ z.p.n ≤ 128 := by omega
            clear hm HN5
            refine region_later W.heap.size (by kernel_rfl) (by kernel_rfl) ?_
            repeat (go_big_quiet_step ((go_at_call 117; exact later_of (Nat.le_refl _) (CC.out _))))
            refine wpQuiet_nil ?_
            intro x
            have hx := x.below
            generalize x.at = V at hx ⊢
            clear x Ld0 Ld1 Ld2 Ld3 Ld4 Lt0 Lpa Lpb Lpc Lpg d0 d1 d2 d3 d4 t0 pa pb pc pg
            have bV := b1.trans (hx.mono b1.size)
            clear hx hkj kt
            go_wp2
            go_roundw
            case rel => exact ⟨k + 1, by omega, by go_num, by (first | (rw [HM.out]; done) | (rw [HM.out]; congr 1; omega)), bV⟩
            case measure => simp [RowKit.intOf]; omega
    · obtain rfl : k = L.length := by omega
      rw [List.take_length, HR.out]
      have kt : decide ((L.length : Int) < (L.length : Int)) = false := by simp
      go_wp2
      go_ret
      exact ⟨rfl, hB⟩
end

end Go.Proofs.Ytnmjofccedjkkaa

namespace Go.Proofs.Ytnmjofccedjkkaa
open Go.RowKit Go.Maps
set_option maxRecDepth 100000

/-- One step of what Put goes through: what is there so far, and whether the new one is. -/
def putStep (p : Pf) (v : Int) (s : List Pr × Bool) (x : Pr) : List Pr × Bool :=
  ((if 0 ≤ pcmp x.p p ∧ s.2 = false then s.1 ++ [⟨p, v⟩] else s.1) ++ (if pcmp x.p p = 0 then [] else [x]), s.2 || decide (0 ≤ pcmp x.p p))
def putF (p : Pf) (v : Int) (L : List Pr) (k : Nat) : List Pr × Bool := (L.take k).foldl (putStep p v) ([], false)
theorem putF_succ (p : Pf) (v : Int) (L : List Pr) {k : Nat} (h : k < L.length) : putF p v L (k + 1) = putStep p v (putF p v L k) L[k] := by
  unfold putF
  rw [List.take_succ_eq_append_getElem h, List.foldl_append]
  rfl
theorem putF_len (p : Pf) (v : Int) (L : List Pr) (k : Nat) : (putF p v L k).1.length ≤ 2 * k := by
  induction k with
  | zero => exact Nat.le_refl _
  | succ k ih =>
    by_cases h : k < L.length
    · rw [putF_succ p v L h]
      unfold putStep
      simp only [List.length_append]
      have h1 : (if 0 ≤ pcmp L[k].p p ∧ (putF p v L k).2 = false then (putF p v L k).1 ++ [⟨p, v⟩] else (putF p v L k).1).length ≤ (putF p v L k).1.length + 1 := by split <;> simp
      have h2 : (if pcmp L[k].p p = 0 then [] else [L[k]]).length ≤ 1 := by split <;> simp
      omega
    · have e : putF p v L (k + 1) = putF p v L k := by
        unfold putF
        rw [List.take_of_length_le (by omega), List.take_of_length_le (by omega)]
      rw [e]
      omega
theorem put_rest (p : Pf) (v : Int) : ∀ (l o : List Pr), (∀ y ∈ l, 0 < pcmp y.p p) → l.foldl (putStep p v) (o, true) = (o ++ l, true) := by
  intro l
  induction l with
  | nil => intro o _; simp
  | cons x l ih =>
    intro o h
    have hx := h x (List.mem_cons_self ..)
    rw [List.foldl_cons]
    have e : putStep p v (o, true) x = (o ++ [x], true) := by
      unfold putStep
      simp only [Bool.true_eq_false, and_false, if_false, Bool.true_or]
      rw [if_neg (by omega)]
    rw [e, ih _ (fun y hy => h y (List.mem_cons_of_mem _ hy))]
    simp
theorem put_go {p : Pf} (hp : psane p = true) (v : Int) : ∀ (l o : List Pr), Srt l → (if (l.foldl (putStep p v) (o, false)).2 = true then (l.foldl (putStep p v) (o, false)).1 else (l.foldl (putStep p v) (o, false)).1 ++ [⟨p, v⟩]) = o ++ putL p v l := by
  intro l
  induction l with
  | nil => intro o _; simp [putL]
  | cons x l ih =>
    intro o h
    obtain ⟨h1, h2, h3⟩ := srt_cons.1 h
    rw [List.foldl_cons]
    have bd := pcmp_bd x.p p
    rcases (show pcmp x.p p < 0 ∨ pcmp x.p p = 0 ∨ 0 < pcmp x.p p by omega) with c | c | c
    · have e : putStep p v (o, false) x = (o ++ [x], false) := by
        unfold putStep
        rw [if_neg (by omega), if_neg (by omega)]
        simp
        omega
      rw [e, ih _ h3, putL, if_pos c]
      simp
    · have hxp : x.p = p := (pcmp_eq h1 hp).1 c
      have e : putStep p v (o, false) x = (o ++ [⟨p, v⟩], true) := by
        unfold putStep
        rw [if_pos ⟨by omega, rfl⟩, if_pos c]
        simp
        omega
      have hr : ∀ y ∈ l, 0 < pcmp y.p p := fun y hy => by
        have := h2 y hy
        rw [hxp] at this
        have := pcmp_anti p y.p
        omega
      rw [e, put_rest p v l _ hr, if_pos rfl, putL, if_neg (by omega), if_pos c]
      simp
    · have e : putStep p v (o, false) x = (o ++ [⟨p, v⟩] ++ [x], true) := by
        unfold putStep
        rw [if_pos ⟨by omega, rfl⟩, if_neg (by omega)]
        simp
        omega
      have hr : ∀ y ∈ l, 0 < pcmp y.p p := fun y hy => by
        have g1 := h2 y hy
        have g2 := pcmp_anti x.p p
        have g3 := pcmp_lt_trans hp (h3.1 y hy) (show pcmp p x.p < 0 by omega) g1
        have g4 := pcmp_anti p y.p
        omega
      rw [e, put_rest p v l _ hr, if_pos rfl, putL, if_neg (by omega), if_neg (by omega)]
      simp
theorem putF_all {p : Pf} {L : List Pr} (hp : psane p = true) (h : Srt L) (v : Int) : (if (putF p v L L.length).2 = true then (putF p v L L.length).1 else (putF p v L L.length).1 ++ [⟨p, v⟩]) = putL p v L := by
  have := put_go hp v L [] h
  unfold putF
  rw [List.take_length]
  simpa using this

section
variable {w : World} {A : Option Addr} {c : Nat} {L : List Pr}
set_option maxHeartbeats 2000000 in
theorem kput_no (most : Int) (p : Pf) (v : Int) (hp : psane p = false) : Calls Try.prog 77 #[.agg #[.slice A L.length c, .int .i64 most], .agg #[.int .u64 (u p.a.hi), .int .u64 (u p.a.lo), .bool p.a.v6, .int .i64 p.n], .int .i64 v] w fun e w' => e = .returned (.tuple #[.agg #[.slice A L.length c, .int .i64 most], .int .i64 1]) ∧ Below w.heap.size w w' := by
  have cs := rpsane_any p
  rw [hp] at cs
  have CS := Lib.hid cs
  clear cs hp
  go_enter Try.func77, Try.ntmps77
  go_wp2_with fail
  refine (CS.out _).mono ?_
  rintro e w1 ⟨rfl, hw1⟩
  have b1 : Below w.heap.size w w1 := below_of (by go_grown) hw1
  have hK : KBox w1 w.heap.size A L.length c most := KBox.keep (by refine ⟨?_, ?_, ?_⟩ <;> first | (go_simp; done) | (go_simp <;> rfl) | go_size) hw1
  have h3 : w1.heap[w.heap.size + 1 + 1]? = some (.cells #[.slice none 0 0, .int .i64 0] 35 (0, 0)) := (hw1.block (w.heap.size + 1 + 1) (by go_size)).trans (by repeat (first | (refine hp_new ?_; (simp; done)) | (refine hp_old ?_ ?_; · (first | (simp; done) | (simp; omega)))))
  obtain ⟨t0, t1, tz⟩ := id hK
  have r0 : w1.cell? ⟨w.heap.size + 1 + 1, 0, none⟩ = some (.slice none 0 0) := by rw [cell_row h3]; rfl
  have r1 : w1.cell? ⟨w.heap.size + 1 + 1, 1, none⟩ = some (.int .i64 0) := by rw [cell_row h3]; rfl
  have q0 := frozen_of_row w1 (w.heap.size + 1 + 1) 0 _ _ h3
  have q1 := frozen_of_row w1 (w.heap.size + 1 + 1) 1 _ _ h3
  clear hw1 hK h3
  go_wp2
  refine bodyPost_ret (v := .tuple #[.agg #[.slice A L.length c, .int .i64 most], .int .i64 1]) (by simp [*, results, Try.results77, go_sem] <;> rfl) rfl ⟨rfl, ?_⟩
  exact b1.trans (((Below.refl _ _).setCell (by simp; omega) _).setCell (by simp; omega) _)

set_option maxHeartbeats 8000000 in
theorem kput_yes (hr : RdQ w A L) (hs : Srt L) (hl : L.length ≤ 10000) (most : Int) (_ : 0 ≤ most ∧ most ≤ 1000000000) (p : Pf) (v : Int) (hp : psane p = true) : Calls Try.prog 77 #[.agg #[.slice A L.length c, .int .i64 most], .agg #[.int .u64 (u p.a.hi), .int .u64 (u p.a.lo), .bool p.a.v6, .int .i64 p.n], .int .i64 v] w fun e w' => ∃ A' c', e = .returned (.tuple #[.agg #[.slice A' (putL p v L).length c', .int .i64 (max most (nodesL (putL p v L)))], .int .i64 0]) ∧ RdQ w' A' (putL p v L) ∧ (∀ g off, A' = some ⟨g, off, none⟩ → putL p v L ≠ [] → w.heap.size ≤ g) ∧ Below w.heap.size w w' := by
  have HRD := Lib.hid hr
  have cs := rpsane_any p
  rw [hp] at cs
  have CS := Lib.hid cs
  have hall := putF_all hp hs v
  have hsp := put_srt (v := v) hs hp
  have hpl := put_len (v := v) hs hp
  have hpl2 : (putL p v L).length ≤ 10001 := by rw [hpl]; split <;> omega
  obtain ⟨Z, hZ⟩ : ∃ Z, putL p v L = Z := ⟨_, rfl⟩
  rw [hZ] at hall hsp hpl2 ⊢
  have HALL := Lib.hid hall
  have HSP := Lib.hid hsp
  clear hr hs hp cs hall hsp hpl hZ
  go_enter Try.func77, Try.ntmps77
  go_wp2_with fail
  refine (CS.out _).mono ?_
  rintro e w1 ⟨rfl, hw1⟩
  have b1 : Below w.heap.size w w1 := below_of (by go_grown) hw1
  have hK : KBox w1 w.heap.size A L.length c most := KBox.keep (by refine ⟨?_, ?_, ?_⟩ <;> first | (go_simp; done) | (go_simp <;> rfl) | go_size) hw1
  have hP : PBox w1 (w.heap.size + 1) p := PBox.keep (by exact ⟨by go_simp <;> rfl, by go_simp <;> rfl, by go_simp <;> rfl, by go_simp <;> rfl, by go_simp <;> rfl, by go_simp <;> rfl, by go_simp <;> rfl, by go_simp <;> rfl, by go_size⟩) hw1
  have h3 : w1.heap[w.heap.size + 1 + 1]? = some (.cells #[.slice none 0 0, .int .i64 0] 35 (0, 0)) := (hw1.block (w.heap.size + 1 + 1) (by go_size)).trans (by repeat (first | (refine hp_new ?_; (simp; done)) | (refine hp_old ?_ ?_; · (first | (simp; done) | (simp; omega)))))
  have HK := Lib.hid hK
  have HP := Lib.hid hP
  have H3 := Lib.hid h3
  have z3 := lt_of_block h3
  have z1 := b1.size
  clear hw1 hK hP h3 CS
  go_wp2_with fail
  go_loopw [8, 9, 10] (fun o b i wr => ∃ k N : Nat, k ≤ L.length ∧ i = .int .i64 k ∧ N = (putF p v L k).1.length ∧ b = .bool (putF p v L k).2 ∧ wr.ownsRow w1.heap.size 127 5 o N (prv (putF p v L k).1) ∧ Below w1.heap.size w1 wr) (fun _ _ i _ => L.length - (RowKit.intOf i).toNat)
  case atStart => exact ⟨0, 0, Nat.zero_le _, rfl, rfl, rfl, World.ownsRow_nil _ _ _ _, Below.refl _ _⟩
  case round =>
    obtain ⟨k, N, hk, rfl, hN, rfl, hown, hBj⟩ := hrel
    have hB := b1.trans (hBj.mono z1)
    have HO := Lib.hid hown
    have hN9 : N ≤ 20000 := by
      have h1 := putF_len p v L k
      omega
    obtain ⟨A2, c2, rfl, -⟩ := own_val hown
    have zr := hBj.size
    by_cases hlt : k < L.length
    · obtain ⟨t0, t1, tz⟩ := id (HK.out.keep hBj)
      obtain ⟨pa, pb, pc, pg, -, -, -, -, pz⟩ := id (HP.out.keep hBj)
      -- HRD: the fact RdQ at w, L: the list; k, hlt, hB : Below w.heap.size w wr. The cells of the k-th in wr: d0 .. d4
      obtain ⟨g, off, rfl, hg, hc⟩ := HRD.out (by intro e; rw [e] at hlt; cases hlt)
      obtain ⟨c0, c1, c2, c3, c4⟩ := hc k hlt
      have d0 := (hB.cell (p := ⟨g, off + k * 5, none⟩) hg).trans c0
      have d1 := (hB.cell (p := ⟨g, off + k * 5 + 1, none⟩) hg).trans c1
      have d2 := (hB.cell (p := ⟨g, off + k * 5 + 2, none⟩) hg).trans c2
      have d3 := (hB.cell (p := ⟨g, off + k * 5 + 3, none⟩) hg).trans c3
      have d4 := (hB.cell (p := ⟨g, off + k * 5 + 4, none⟩) hg).trans c4
      have gz : g < wr.heap.size := Nat.lt_of_lt_of_le hg hB.size
      clear c0 c1 c2 c3 c4 hc
      have hsc := putF_succ p v L hlt
      obtain ⟨y, hy⟩ : ∃ y, L[k] = y := ⟨_, rfl⟩
      unfold putStep at hsc
      obtain ⟨o, ho⟩ : ∃ o, (putF p v L k).1 = o := ⟨_, rfl⟩
      obtain ⟨bb, hb⟩ : ∃ bb, (putF p v L k).2 = bb := ⟨_, rfl⟩
      rw [hy] at d0 d1 d2 d3 d4 hsc
      rw [ho] at hsc hN HO
      rw [hb] at hsc ⊢
      have hN' : N = o.length := hN
      have HO' : Hid (wr.ownsRow w1.heap.size 127 5 (.slice A2 N c2) N (prv o)) := Lib.hid HO.out
      have bd := pcmp_bd y.p p
      have cc := rpcmp_any y.p p
      obtain ⟨cv, hcv⟩ : ∃ cv, pcmp y.p p = cv := ⟨_, rfl⟩
      rw [hcv] at hsc bd cc
      have HSC := Lib.hid hsc
      have CC := Lib.hid cc
      have HN := Lib.hid hN'
      clear hsc cc hcv hy ho hb hN hN' HO hown HK HP H3 t1
      obtain ⟨W, rfl⟩ : ∃ W, W = wr := ⟨_, rfl⟩
      have Ld0 := fun x : Later W.heap.size W => (x.cell (p := ⟨g, off + k * 5, none⟩) gz).trans d0
      have Ld1 := fun x : Later W.heap.size W => (x.cell (p := ⟨g, off + k * 5 + 1, none⟩) gz).trans d1
      have Ld2 := fun x : Later W.heap.size W => (x.cell (p := ⟨g, off + k * 5 + 2, none⟩) gz).trans d2
      have Ld3 := fun x : Later W.heap.size W => (x.cell (p := ⟨g, off + k * 5 + 3, none⟩) gz).trans d3
      have Ld4 := fun x : Later W.heap.size W => (x.cell (p := ⟨g, off + k * 5 + 4, none⟩) gz).trans d4
      have Lt0 := fun x : Later W.heap.size W => (x.cell tz).trans t0
      have Lpa := fun x : Later W.heap.size W => (x.cell pz).trans pa
      have Lpb := fun x : Later W.heap.size W => (x.cell pz).trans pb
      have Lpc := fun x : Later W.heap.size W => (x.cell pz).trans pc
      have Lpg := fun x : Later W.heap.size W => (x.cell pz).trans pg
      go_wp2_with fail
      refine region_later W.heap.size (by kernel_rfl) (by kernel_rfl) ?_
      repeat (go_big_quiet_step ((go_at_call 110; exact later_of (Nat.le_refl _) (CC.out _))))
      refine wpQuiet_nil ?_
      intro x
      have hx := x.below
      generalize x.at = V at hx ⊢
      clear x Ld0 Ld1 Ld2 Ld3 Ld4 Lt0 Lpa Lpb Lpc Lpg
      have bV := hBj.trans (hx.mono hBj.size)
      have HOV := Lib.hid (own_fresh HO'.out hx)
      have zV := bV.size
      replace d0 := (hx.cell (p := ⟨g, off + k * 5, none⟩) gz).trans d0
      replace d1 := (hx.cell (p := ⟨g, off + k * 5 + 1, none⟩) gz).trans d1
      replace d2 := (hx.cell (p := ⟨g, off + k * 5 + 2, none⟩) gz).trans d2
      replace d3 := (hx.cell (p := ⟨g, off + k * 5 + 3, none⟩) gz).trans d3
      replace d4 := (hx.cell (p := ⟨g, off + k * 5 + 4, none⟩) gz).trans d4
      replace t0 := (hx.cell tz).trans t0
      replace pa := (hx.cell pz).trans pa
      replace pb := (hx.cell pz).trans pb
      replace pc := (hx.cell pz).trans pc
      replace pg := (hx.cell pz).trans pg
      clear hx HO' CC
      rcases (show cv = -1 ∨ cv = 0 ∨ cv = 1 by omega) with hcv | hcv | hcv
      · subst hcv
        clear bd
        obtain ⟨HS1, HS2⟩ : Hid ((putF p v L (k + 1)).1 = o ++ [y]) ∧ Hid ((putF p v L (k + 1)).2 = bb) := ⟨Lib.hid (by rw [HSC.out]; simp), Lib.hid (by rw [HSC.out]; simp)⟩
        clear HSC pa pb pc pg
        go_wp2_with (
          at_builtin
          refine wpList_five1 five_ref rfl (.tmp 46) (.tmp 52) rfl w1.heap.size _ N o HN.out (by rfl) (HOV.out.alloc _) V.heap.size y (by rfl) (heap_alloc_new V _) (by omega) (by simp; omega) ?_
          intro v2 w2 ho2 hb2
          have b2 : Below w1.heap.size w1 w2 := bV.trans (Below.trans (by go_grown) hb2)
          have HO2 := Lib.hid ho2
          obtain ⟨A5, c5, rfl, -⟩ := own_val ho2
          clear ho2 hb2
          try clear d0 d1 d2 d3 d4
          try clear t0
          try clear pa pb pc pg
          try clear zV
          )
        go_roundw
        case rel => exact ⟨k + 1, N + 1, by omega, by go_num, by rw [HS1.out, List.length_append, ← HN.out]; rfl, by rw [HS2.out], by rw [HS1.out]; exact HO2.out, b2⟩
        case measure => simp [RowKit.intOf]; omega
      · subst hcv
        clear bd
        cases bb
        · obtain ⟨HS1, HS2⟩ : Hid ((putF p v L (k + 1)).1 = o ++ [⟨p, v⟩]) ∧ Hid ((putF p v L (k + 1)).2 = true) := ⟨Lib.hid (by rw [HSC.out]; simp), Lib.hid (by rw [HSC.out]; simp)⟩
          clear HSC d0 d1 d2 d3 d4 t0
          go_wp2_with (
            at_builtin
            refine wpList_five1 five_ref rfl (.tmp 38) (.tmp 42) rfl w1.heap.size _ N o HN.out (by rfl) (HOV.out.alloc _) V.heap.size ⟨p, v⟩ (by rfl) (heap_alloc_new V _) (by omega) (by simp; omega) ?_
            intro v2 w2 ho2 hb2
            have b2 : Below w1.heap.size w1 w2 := bV.trans (Below.trans (by go_grown) hb2)
            have HO2 := Lib.hid ho2
            obtain ⟨A5, c5, rfl, -⟩ := own_val ho2
            clear ho2 hb2
            try clear d0 d1 d2 d3 d4
            try clear t0
            try clear pa pb pc pg
            try clear zV
            )
          go_roundw
          case rel => exact ⟨k + 1, N + 1, by omega, by go_num, by rw [HS1.out, List.length_append, ← HN.out]; rfl, by rw [HS2.out], by rw [HS1.out]; exact HO2.out, b2⟩
          case measure => simp [RowKit.intOf]; omega
        · obtain ⟨HS1, HS2⟩ : Hid ((putF p v L (k + 1)).1 = o) ∧ Hid ((putF p v L (k + 1)).2 = true) := ⟨Lib.hid (by rw [HSC.out]; simp), Lib.hid (by rw [HSC.out]; simp)⟩
          clear HSC d0 d1 d2 d3 d4 t0 pa pb pc pg
          go_wp2
          go_roundw
          case rel => exact ⟨k + 1, N, by omega, by go_num, by rw [HS1.out]; exact HN.out, by rw [HS2.out], by rw [HS1.out]; exact HOV.out, bV⟩
          case measure => simp [RowKit.intOf]; omega
      · subst hcv
        clear bd
        cases bb
        · obtain ⟨HS1, HS2⟩ : Hid ((putF p v L (k + 1)).1 = o ++ [⟨p, v⟩] ++ [y]) ∧ Hid ((putF p v L (k + 1)).2 = true) := ⟨Lib.hid (by rw [HSC.out]; simp), Lib.hid (by rw [HSC.out]; simp)⟩
          clear HSC
          go_upto_region 12 with (
            at_builtin
            refine wpList_five1 five_ref rfl (.tmp 38) (.tmp 42) rfl w1.heap.size _ N o HN.out (by rfl) (HOV.out.alloc _) V.heap.size ⟨p, v⟩ (by rfl) (heap_alloc_new V _) (by omega) (by simp; omega) ?_
            intro v2 w2 ho2 hb2
            have hv2 : Below w1.heap.size V w2 := Below.trans (by go_grown) hb2
            have b2 : Below w1.heap.size w1 w2 := bV.trans hv2
            have HO2 := Lib.hid ho2
            obtain ⟨A5, c5, rfl, -⟩ := own_val ho2
            clear ho2 hb2
            )
          replace d0 := (hv2.cell (p := ⟨g, off + k * 5, none⟩) (by show g < _; omega)).trans d0
          replace d1 := (hv2.cell (p := ⟨g, off + k * 5 + 1, none⟩) (by show g < _; omega)).trans d1
          replace d2 := (hv2.cell (p := ⟨g, off + k * 5 + 2, none⟩) (by show g < _; omega)).trans d2
          replace d3 := (hv2.cell (p := ⟨g, off + k * 5 + 3, none⟩) (by show g < _; omega)).trans d3
          replace d4 := (hv2.cell (p := ⟨g, off + k * 5 + 4, none⟩) (by show g < _; omega)).trans d4
          replace t0 := (hv2.cell (p := ⟨w.heap.size, 0, none⟩) (by show w.heap.size < _; omega)).trans t0
          have zw2 := b2.size
          clear hv2 pa pb pc pg HOV
          go_wp2_with (
            at_builtin
            refine wpList_five1 five_ref rfl (.tmp 46) (.tmp 52) rfl w1.heap.size _ (N + 1) (o ++ [⟨p, v⟩]) (by rw [List.length_append, ← HN.out]; rfl) (by rfl) (HO2.out.alloc _) w2.heap.size y (by rfl) (heap_alloc_new w2 _) (by omega) (by simp; omega) ?_
            intro v3 w3 ho3 hb3
            have b3 : Below w1.heap.size w1 w3 := b2.trans (Below.trans (by go_grown) hb3)
            have HO3 := Lib.hid ho3
            obtain ⟨A6, c6, rfl, -⟩ := own_val ho3
            clear ho3 hb3
            try clear d0 d1 d2 d3 d4
            try clear t0
            try clear zw2
            try clear zV
            )
          go_roundw
          case rel => exact ⟨k + 1, N + 1 + 1, by omega, by go_num, by rw [HS1.out, List.length_append, List.length_append, ← HN.out]; rfl, by rw [HS2.out], by rw [HS1.out]; exact HO3.out, b3⟩
          case measure => simp [RowKit.intOf]; omega
        · obtain ⟨HS1, HS2⟩ : Hid ((putF p v L (k + 1)).1 = o ++ [y]) ∧ Hid ((putF p v L (k + 1)).2 = true) := ⟨Lib.hid (by rw [HSC.out]; simp), Lib.hid (by rw [HSC.out]; simp)⟩
          clear HSC pa pb pc pg
          go_wp2_with (
            at_builtin
            refine wpList_five1 five_ref rfl (.tmp 46) (.tmp 52) rfl w1.heap.size _ N o HN.out (by rfl) (HOV.out.alloc _) V.heap.size y (by rfl) (heap_alloc_new V _) (by omega) (by simp; omega) ?_
            intro v2 w2 ho2 hb2
            have b2 : Below w1.heap.size w1 w2 := bV.trans (Below.trans (by go_grown) hb2)
            have HO2 := Lib.hid ho2
            obtain ⟨A5, c5, rfl, -⟩ := own_val ho2
            clear ho2 hb2
            try clear d0 d1 d2 d3 d4
            try clear t0
            try clear pa pb pc pg
            try clear zV
            )
          go_roundw
          case rel => exact ⟨k + 1, N + 1, by omega, by go_num, by rw [HS1.out, List.length_append, ← HN.out]; rfl, by rw [HS2.out], by rw [HS1.out]; exact HO2.out, b2⟩
          case measure => simp [RowKit.intOf]; omega
    · obtain rfl : k = L.length := by omega
      have kt : decide ((L.length : Int) < (L.length : Int)) = false := by simp
      obtain ⟨o, ho⟩ : ∃ o, (putF p v L L.length).1 = o := ⟨_, rfl⟩
      obtain ⟨bb, hb⟩ : ∃ bb, (putF p v L L.length).2 = bb := ⟨_, rfl⟩
      have hal := HALL.out
      rw [ho] at hN hal HO
      rw [hb] at hal ⊢
      have hN' : N = o.length := hN
      have HO' : Hid (wr.ownsRow w1.heap.size 127 5 (.slice A2 N c2) N (prv o)) := Lib.hid HO.out
      have HN := Lib.hid hN'
      obtain ⟨t0, t1, tz⟩ := id (HK.out.keep hBj)
      clear ho hb hN hN' HO hown HALL HRD
      cases bb
      · have hZ : o ++ [⟨p, v⟩] = Z := by simpa using hal
        obtain ⟨pa, pb, pc, pg, -, -, -, -, pz⟩ := id (HP.out.keep hBj)
        have hlen : N + 1 = Z.length := by rw [← hZ, List.length_append, ← HN.out]; rfl
        have HZ := Lib.hid hZ
        have HLEN := Lib.hid hlen
        clear hal hZ hlen t1
        go_upto_region 16 with (
          at_builtin
          refine wpList_five1 five_ref rfl (.tmp 56) (.tmp 60) rfl w1.heap.size _ N o HN.out (by rfl) (HO'.out.alloc _) wr.heap.size ⟨p, v⟩ (by rfl) (heap_alloc_new wr _) (by omega) (by simp; omega) ?_
          intro v2 w2 ho2 hb2
          have b2 : Below w1.heap.size w1 w2 := hBj.trans (Below.trans (by go_grown) hb2)
          have HO2 := Lib.hid ho2
          obtain ⟨A5, c5, rfl, -⟩ := own_val ho2
          clear ho2 hb2
          try clear d0 d1 d2 d3 d4
          try clear t0
          try clear pa pb pc pg
          try clear zV
          )
        have hz2 : w2.ownsRow w1.heap.size 127 5 (.slice A5 (N + 1) c5) (N + 1) (prv Z) := by rw [← HZ.out]; exact HO2.out
        clear HO2 HO' HN HZ
        obtain ⟨NN, hNN⟩ : ∃ NN, N + 1 = NN := ⟨_, rfl⟩
        rw [hNN] at hz2 HLEN ⊢
        clear hNN
        -- w2: the world, A5, c5: where the new pairs lie, b2: Below w1.heap.size w1 w2; hz2, HLEN : NN = Z.length
        have zz := (b2).size
        obtain ⟨t0, t1, tz⟩ := id (HK.out.keep b2)
        have h3 := ((b2).block _ z3).trans H3.out
        have bw := b1.trans ((b2).mono z1)
        have hz3 := hz2
        rw [HLEN.out] at hz3
        obtain ⟨A8, c8, e8, hrz⟩ := own_rdq hz3
        simp only [Value.slice.injEq, true_and] at e8
        obtain ⟨rfl, rfl⟩ := e8
        have HRZ := Lib.hid hrz
        have hnb := nodes_bd Z HSP.out.1
        have cn : ∀ W, RdQ W A5 Z → Calls Try.prog 87 #[.agg #[.slice A5 NN c5, .int .i64 most]] W fun e w' => e = .returned (.int .i64 (nodesL Z)) ∧ Below W.heap.size W w' := fun W hr => by
          have := knodes_any (c := c5) hr HSP.out.1 (by omega) most
          rw [← HLEN.out] at this
          exact this
        have CN := Lib.hid cn
        have hG : ∀ g off, A5 = some ⟨g, off, none⟩ → Z ≠ [] → w1.heap.size ≤ g ∧ g < (w2).heap.size := fun g off e hn => by
          obtain ⟨g', c', e', h1, h2, -⟩ := row_cell hz3 rfl (List.length_pos_iff.2 hn)
          rw [e] at e'
          simp only [Value.slice.injEq, Option.some.injEq, Addr.mk.injEq] at e'
          obtain ⟨⟨rfl, -, -⟩, -⟩ := e'
          exact ⟨h1, h2⟩
        have HG := Lib.hid hG
        clear hz2 hz3 hrz cn hG
        obtain ⟨R, hR⟩ : ∃ R, nodesL Z = R := ⟨_, rfl⟩
        rw [hR] at hnb CN
        have HR := Lib.hid hR
        have hRb : 2 ≤ R ∧ R ≤ 10000000 := by omega
        clear hR hnb
        go_upto_region 17 with fail
        generalize hW : World.alloc _ _ = W
        have hBW : Below (w2).heap.size w2 W := by subst hW; go_grown
        have hB3 : W.heap[(w2).heap.size]? = some (.cells #[.slice A5 NN c5, .int .i64 most] 35 (0, 0)) := by subst hW; repeat (first | (refine hp_new ?_; (simp; done)) | (refine hp_old ?_ ?_; · (first | (simp; done) | (simp; omega))))
        have zW := lt_of_block hB3
        have k0 : W.cell? ⟨(w2).heap.size, 0, none⟩ = some (.slice A5 NN c5) := by rw [cell_row hB3]; rfl
        have k1 : W.cell? ⟨(w2).heap.size, 1, none⟩ = some (.int .i64 most) := by rw [cell_row hB3]; rfl
        replace h3 := (hBW.block _ (by omega)).trans h3
        replace bw := bw.trans (hBW.mono bw.size)
        replace HRZ := Lib.hid (HRZ.out.keep hBW (Nat.le_refl _))
        clear hW hBW t0 t1 tz
        have Lk0 := fun x : Later W.heap.size W => (x.cell zW).trans k0
        have Lk1 := fun x : Later W.heap.size W => (x.cell zW).trans k1
        by_cases hmx : most < R
        · have HMX : Hid (max most R = R) := Lib.hid (by omega)
          refine region_tail 6 W.heap.size (by kernel_rfl) (by kernel_rfl) ?_
          simp only [List.take_succ_cons, List.take_zero, List.drop_succ_cons, List.drop_zero]
          repeat (go_big_quiet_step ((go_at_call 87; exact later_of (Nat.le_refl _) (CN.out _ (HRZ.out.keep (Later.below _) (Nat.le_refl _))))))
          refine wpQuiet_nil ?_
          intro x
          have hx := x.below
          generalize x.at = V at hx ⊢
          clear x Lk0 Lk1 k0 k1
          have hV3 := (hx.block _ zW).trans hB3
          replace h3 := (hx.block _ (by omega)).trans h3
          replace bw := bw.trans (hx.mono bw.size)
          replace HRZ := Lib.hid (HRZ.out.keep hx (Nat.le_refl _))
          have zV := hx.size
          clear hx hB3 CN
          have k0 : V.cell? ⟨(w2).heap.size, 0, none⟩ = some (.slice A5 NN c5) := by rw [cell_row hV3]; rfl
          have k1 : V.cell? ⟨(w2).heap.size, 1, none⟩ = some (.int .i64 most) := by rw [cell_row hV3]; rfl
          have f0 := frozen_of_row V ((w2).heap.size) 0 _ _ hV3
          have f1 := frozen_of_row V ((w2).heap.size) 1 _ _ hV3
          have r0 : V.cell? ⟨w.heap.size + 1 + 1, 0, none⟩ = some (.slice none 0 0) := by rw [cell_row h3]; rfl
          have r1 : V.cell? ⟨w.heap.size + 1 + 1, 1, none⟩ = some (.int .i64 0) := by rw [cell_row h3]; rfl
          have q0 := frozen_of_row V (w.heap.size + 1 + 1) 0 _ _ h3
          have q1 := frozen_of_row V (w.heap.size + 1 + 1) 1 _ _ h3
          have nn : ¬ w.heap.size + 1 + 1 = (w2).heap.size := by omega
          have nn2 : ¬ (w2).heap.size = w.heap.size + 1 + 1 := by omega
          clear hV3 h3
          go_wp2
          refine bodyPost_ret (v := .tuple #[.agg #[.slice A5 NN c5, .int .i64 R], .int .i64 0]) (by simp [*, results, Try.results77, go_sem] <;> rfl) rfl ?_
          first
            | refine ⟨A5, c5, ?_, ?_, ?_, ?_⟩
            | refine ⟨A5, ⟨c5, ?_⟩, ?_, ?_, ?_⟩
          · rw [← HLEN.out, HR.out, HMX.out]
          · intro hne
            obtain ⟨g, off, e, hg, hc⟩ := HRZ.out hne
            obtain ⟨g1, g2⟩ := HG.out g off e hne
            have n1 : ¬ (w2).heap.size = g := by omega
            have n2 : ¬ w.heap.size + 1 + 1 = g := by omega
            have n3 : ¬ g = (w2).heap.size := by omega
            have n4 : ¬ g = w.heap.size + 1 + 1 := by omega
            refine ⟨g, off, e, by simpa using hg, fun i hi => ?_⟩
            obtain ⟨c0, c1, c2, c3, c4⟩ := hc i hi
            clear k0 k1 f0 f1 r0 r1 q0 q1
            refine ⟨?_, ?_, ?_, ?_, ?_⟩
            all_goals (go_simp; try assumption)
          · intro g off e hne
            have g1 := (HG.out g off e hne).1
            omega
          · exact bw.trans (((((Below.refl _ _).setCell (by first | (simp; done) | (simp; omega) | omega) _).setCell (by first | (simp; done) | (simp; omega) | omega) _).setCell (by first | (simp; done) | (simp; omega) | omega) _))
        · have HMX : Hid (max most R = most) := Lib.hid (by omega)
          refine region_tail 6 W.heap.size (by kernel_rfl) (by kernel_rfl) ?_
          simp only [List.take_succ_cons, List.take_zero, List.drop_succ_cons, List.drop_zero]
          repeat (go_big_quiet_step ((go_at_call 87; exact later_of (Nat.le_refl _) (CN.out _ (HRZ.out.keep (Later.below _) (Nat.le_refl _))))))
          refine wpQuiet_nil ?_
          intro x
          have hx := x.below
          generalize x.at = V at hx ⊢
          clear x Lk0 Lk1 k0 k1
          have hV3 := (hx.block _ zW).trans hB3
          replace h3 := (hx.block _ (by omega)).trans h3
          replace bw := bw.trans (hx.mono bw.size)
          replace HRZ := Lib.hid (HRZ.out.keep hx (Nat.le_refl _))
          have zV := hx.size
          clear hx hB3 CN
          have k0 : V.cell? ⟨(w2).heap.size, 0, none⟩ = some (.slice A5 NN c5) := by rw [cell_row hV3]; rfl
          have k1 : V.cell? ⟨(w2).heap.size, 1, none⟩ = some (.int .i64 most) := by rw [cell_row hV3]; rfl
          have f0 := frozen_of_row V ((w2).heap.size) 0 _ _ hV3
          have f1 := frozen_of_row V ((w2).heap.size) 1 _ _ hV3
          have r0 : V.cell? ⟨w.heap.size + 1 + 1, 0, none⟩ = some (.slice none 0 0) := by rw [cell_row h3]; rfl
          have r1 : V.cell? ⟨w.heap.size + 1 + 1, 1, none⟩ = some (.int .i64 0) := by rw [cell_row h3]; rfl
          have q0 := frozen_of_row V (w.heap.size + 1 + 1) 0 _ _ h3
          have q1 := frozen_of_row V (w.heap.size + 1 + 1) 1 _ _ h3
          have nn : ¬ w.heap.size + 1 + 1 = (w2).heap.size := by omega
          have nn2 : ¬ (w2).heap.size = w.heap.size + 1 + 1 := by omega
          clear hV3 h3
          go_wp2
          refine bodyPost_ret (v := .tuple #[.agg #[.slice A5 NN c5, .int .i64 most], .int .i64 0]) (by simp [*, results, Try.results77, go_sem] <;> rfl) rfl ?_
          first
            | refine ⟨A5, c5, ?_, ?_, ?_, ?_⟩
            | refine ⟨A5, ⟨c5, ?_⟩, ?_, ?_, ?_⟩
          · rw [← HLEN.out, HR.out, HMX.out]
          · intro hne
            obtain ⟨g, off, e, hg, hc⟩ := HRZ.out hne
            obtain ⟨g1, g2⟩ := HG.out g off e hne
            have n1 : ¬ (w2).heap.size = g := by omega
            have n2 : ¬ w.heap.size + 1 + 1 = g := by omega
            have n3 : ¬ g = (w2).heap.size := by omega
            have n4 : ¬ g = w.heap.size + 1 + 1 := by omega
            refine ⟨g, off, e, by simpa using hg, fun i hi => ?_⟩
            obtain ⟨c0, c1, c2, c3, c4⟩ := hc i hi
            clear k0 k1 f0 f1 r0 r1 q0 q1
            refine ⟨?_, ?_, ?_, ?_, ?_⟩
            all_goals (go_simp; try assumption)
          · intro g off e hne
            have g1 := (HG.out g off e hne).1
            omega
          · exact bw.trans (((((Below.refl _ _).setCell (by first | (simp; done) | (simp; omega) | omega) _).setCell (by first | (simp; done) | (simp; omega) | omega) _).setCell (by first | (simp; done) | (simp; omega) | omega) _))
      · have hZ : o = Z := by simpa using hal
        subst hZ
        have HLEN := HN
        have hz2 := HO'.out
        clear hal HO' HN
        go_upto_region 16 with fail
        clear t0 t1 tz
        obtain ⟨NN, hNN⟩ : ∃ NN, N = NN := ⟨_, rfl⟩
        rw [hNN] at hz2 HLEN ⊢
        clear hNN
        obtain ⟨Z, rfl⟩ : ∃ Z, Z = o := ⟨_, rfl⟩
        -- wr: the world, A2, c2: where the new pairs lie, hBj: Below w1.heap.size w1 wr; hz2, HLEN : NN = Z.length
        have zz := (hBj).size
        obtain ⟨t0, t1, tz⟩ := id (HK.out.keep hBj)
        have h3 := ((hBj).block _ z3).trans H3.out
        have bw := b1.trans ((hBj).mono z1)
        have hz3 := hz2
        rw [HLEN.out] at hz3
        obtain ⟨A8, c8, e8, hrz⟩ := own_rdq hz3
        simp only [Value.slice.injEq, true_and] at e8
        obtain ⟨rfl, rfl⟩ := e8
        have HRZ := Lib.hid hrz
        have hnb := nodes_bd Z HSP.out.1
        have cn : ∀ W, RdQ W A2 Z → Calls Try.prog 87 #[.agg #[.slice A2 NN c2, .int .i64 most]] W fun e w' => e = .returned (.int .i64 (nodesL Z)) ∧ Below W.heap.size W w' := fun W hr => by
          have := knodes_any (c := c2) hr HSP.out.1 (by omega) most
          rw [← HLEN.out] at this
          exact this
        have CN := Lib.hid cn
        have hG : ∀ g off, A2 = some ⟨g, off, none⟩ → Z ≠ [] → w1.heap.size ≤ g ∧ g < (wr).heap.size := fun g off e hn => by
          obtain ⟨g', c', e', h1, h2, -⟩ := row_cell hz3 rfl (List.length_pos_iff.2 hn)
          rw [e] at e'
          simp only [Value.slice.injEq, Option.some.injEq, Addr.mk.injEq] at e'
          obtain ⟨⟨rfl, -, -⟩, -⟩ := e'
          exact ⟨h1, h2⟩
        have HG := Lib.hid hG
        clear hz2 hz3 hrz cn hG
        obtain ⟨R, hR⟩ : ∃ R, nodesL Z = R := ⟨_, rfl⟩
        rw [hR] at hnb CN
        have HR := Lib.hid hR
        have hRb : 2 ≤ R ∧ R ≤ 10000000 := by omega
        clear hR hnb
        go_upto_region 17 with fail
        generalize hW : World.alloc _ _ = W
        have hBW : Below (wr).heap.size wr W := by subst hW; go_grown
        have hB3 : W.heap[(wr).heap.size]? = some (.cells #[.slice A2 NN c2, .int .i64 most] 35 (0, 0)) := by subst hW; repeat (first | (refine hp_new ?_; (simp; done)) | (refine hp_old ?_ ?_; · (first | (simp; done) | (simp; omega))))
        have zW := lt_of_block hB3
        have k0 : W.cell? ⟨(wr).heap.size, 0, none⟩ = some (.slice A2 NN c2) := by rw [cell_row hB3]; rfl
        have k1 : W.cell? ⟨(wr).heap.size, 1, none⟩ = some (.int .i64 most) := by rw [cell_row hB3]; rfl
        replace h3 := (hBW.block _ (by omega)).trans h3
        replace bw := bw.trans (hBW.mono bw.size)
        replace HRZ := Lib.hid (HRZ.out.keep hBW (Nat.le_refl _))
        clear hW hBW t0 t1 tz
        have Lk0 := fun x : Later W.heap.size W => (x.cell zW).trans k0
        have Lk1 := fun x : Later W.heap.size W => (x.cell zW).trans k1
        by_cases hmx : most < R
        · have HMX : Hid (max most R = R) := Lib.hid (by omega)
          refine region_tail 6 W.heap.size (by kernel_rfl) (by kernel_rfl) ?_
          simp only [List.take_succ_cons, List.take_zero, List.drop_succ_cons, List.drop_zero]
          repeat (go_big_quiet_step ((go_at_call 87; exact later_of (Nat.le_refl _) (CN.out _ (HRZ.out.keep (Later.below _) (Nat.le_refl _))))))
          refine wpQuiet_nil ?_
          intro x
          have hx := x.below
          generalize x.at = V at hx ⊢
          clear x Lk0 Lk1 k0 k1
          have hV3 := (hx.block _ zW).trans hB3
          replace h3 := (hx.block _ (by omega)).trans h3
          replace bw := bw.trans (hx.mono bw.size)
          replace HRZ := Lib.hid (HRZ.out.keep hx (Nat.le_refl _))
          have zV := hx.size
          clear hx hB3 CN
          have k0 : V.cell? ⟨(wr).heap.size, 0, none⟩ = some (.slice A2 NN c2) := by rw [cell_row hV3]; rfl
          have k1 : V.cell? ⟨(wr).heap.size, 1, none⟩ = some (.int .i64 most) := by rw [cell_row hV3]; rfl
          have f0 := frozen_of_row V ((wr).heap.size) 0 _ _ hV3
          have f1 := frozen_of_row V ((wr).heap.size) 1 _ _ hV3
          have r0 : V.cell? ⟨w.heap.size + 1 + 1, 0, none⟩ = some (.slice none 0 0) := by rw [cell_row h3]; rfl
          have r1 : V.cell? ⟨w.heap.size + 1 + 1, 1, none⟩ = some (.int .i64 0) := by rw [cell_row h3]; rfl
          have q0 := frozen_of_row V (w.heap.size + 1 + 1) 0 _ _ h3
          have q1 := frozen_of_row V (w.heap.size + 1 + 1) 1 _ _ h3
          have nn : ¬ w.heap.size + 1 + 1 = (wr).heap.size := by omega
          have nn2 : ¬ (wr).heap.size = w.heap.size + 1 + 1 := by omega
          clear hV3 h3
          go_wp2
          refine bodyPost_ret (v := .tuple #[.agg #[.slice A2 NN c2, .int .i64 R], .int .i64 0]) (by simp [*, results, Try.results77, go_sem] <;> rfl) rfl ?_
          first
            | refine ⟨A2, c2, ?_, ?_, ?_, ?_⟩
            | refine ⟨A2, ⟨c2, ?_⟩, ?_, ?_, ?_⟩
          · rw [← HLEN.out, HR.out, HMX.out]
          · intro hne
            obtain ⟨g, off, e, hg, hc⟩ := HRZ.out hne
            obtain ⟨g1, g2⟩ := HG.out g off e hne
            have n1 : ¬ (wr).heap.size = g := by omega
            have n2 : ¬ w.heap.size + 1 + 1 = g := by omega
            have n3 : ¬ g = (wr).heap.size := by omega
            have n4 : ¬ g = w.heap.size + 1 + 1 := by omega
            refine ⟨g, off, e, by simpa using hg, fun i hi => ?_⟩
            obtain ⟨c0, c1, c2, c3, c4⟩ := hc i hi
            clear k0 k1 f0 f1 r0 r1 q0 q1
            refine ⟨?_, ?_, ?_, ?_, ?_⟩
            all_goals (go_simp; try assumption)
          · intro g off e hne
            have g1 := (HG.out g off e hne).1
            omega
          · exact bw.trans (((((Below.refl _ _).setCell (by first | (simp; done) | (simp; omega) | omega) _).setCell (by first | (simp; done) | (simp; omega) | omega) _).setCell (by first | (simp; done) | (simp; omega) | omega) _))
        · have HMX : Hid (max most R = most) := Lib.hid (by omega)
          refine region_tail 6 W.heap.size (by kernel_rfl) (by kernel_rfl) ?_
          simp only [List.take_succ_cons, List.take_zero, List.drop_succ_cons, List.drop_zero]
          repeat (go_big_quiet_step ((go_at_call 87; exact later_of (Nat.le_refl _) (CN.out _ (HRZ.out.keep (Later.below _) (Nat.le_refl _))))))
          refine wpQuiet_nil ?_
          intro x
          have hx := x.below
          generalize x.at = V at hx ⊢
          clear x Lk0 Lk1 k0 k1
          have hV3 := (hx.block _ zW).trans hB3
          replace h3 := (hx.block _ (by omega)).trans h3
          replace bw := bw.trans (hx.mono bw.size)
          replace HRZ := Lib.hid (HRZ.out.keep hx (Nat.le_refl _))
          have zV := hx.size
          clear hx hB3 CN
          have k0 : V.cell? ⟨(wr).heap.size, 0, none⟩ = some (.slice A2 NN c2) := by rw [cell_row hV3]; rfl
          have k1 : V.cell? ⟨(wr).heap.size, 1, none⟩ = some (.int .i64 most) := by rw [cell_row hV3]; rfl
          have f0 := frozen_of_row V ((wr).heap.size) 0 _ _ hV3
          have f1 := frozen_of_row V ((wr).heap.size) 1 _ _ hV3
          have r0 : V.cell? ⟨w.heap.size + 1 + 1, 0, none⟩ = some (.slice none 0 0) := by rw [cell_row h3]; rfl
          have r1 : V.cell? ⟨w.heap.size + 1 + 1, 1, none⟩ = some (.int .i64 0) := by rw [cell_row h3]; rfl
          have q0 := frozen_of_row V (w.heap.size + 1 + 1) 0 _ _ h3
          have q1 := frozen_of_row V (w.heap.size + 1 + 1) 1 _ _ h3
          have nn : ¬ w.heap.size + 1 + 1 = (wr).heap.size := by omega
          have nn2 : ¬ (wr).heap.size = w.heap.size + 1 + 1 := by omega
          clear hV3 h3
          go_wp2
          refine bodyPost_ret (v := .tuple #[.agg #[.slice A2 NN c2, .int .i64 most], .int .i64 0]) (by simp [*, results, Try.results77, go_sem] <;> rfl) rfl ?_
          first
            | refine ⟨A2, c2, ?_, ?_, ?_, ?_⟩
            | refine ⟨A2, ⟨c2, ?_⟩, ?_, ?_, ?_⟩
          · rw [← HLEN.out, HR.out, HMX.out]
          · intro hne
            obtain ⟨g, off, e, hg, hc⟩ := HRZ.out hne
            obtain ⟨g1, g2⟩ := HG.out g off e hne
            have n1 : ¬ (wr).heap.size = g := by omega
            have n2 : ¬ w.heap.size + 1 + 1 = g := by omega
            have n3 : ¬ g = (wr).heap.size := by omega
            have n4 : ¬ g = w.heap.size + 1 + 1 := by omega
            refine ⟨g, off, e, by simpa using hg, fun i hi => ?_⟩
            obtain ⟨c0, c1, c2, c3, c4⟩ := hc i hi
            clear k0 k1 f0 f1 r0 r1 q0 q1
            refine ⟨?_, ?_, ?_, ?_, ?_⟩
            all_goals (go_simp; try assumption)
          · intro g off e hne
            have g1 := (HG.out g off e hne).1
            omega
          · exact bw.trans (((((Below.refl _ _).setCell (by first | (simp; done) | (simp; omega) | omega) _).setCell (by first | (simp; done) | (simp; omega) | omega) _).setCell (by first | (simp; done) | (simp; omega) | omega) _))
end

end Go.Proofs.Ytnmjofccedjkkaa

namespace Go.Proofs.Ytnmjofccedjkkaa
open Go.RowKit Go.Maps
set_option maxRecDepth 100000

def KAddPost (w : World) (n h : Int) (Z : List Pr) (E : Int) (e : Ending) (w' : World) : Prop := ∃ A' c' most', e = .returned (.tuple #[.agg #[.slice A' Z.length c', .int .i64 most', .int .i64 n, .int .i64 h], .int .i64 E]) ∧ RdQ w' A' Z ∧ (0 ≤ most' ∧ most' ≤ 2000000) ∧ Below w.heap.size w w'
theorem put_ne (p : Pf) (k : Int) (L : List Pr) : putL p k L ≠ [] := by
  cases L with
  | nil => simp [putL]
  | cons x l =>
    unfold putL
    split
    · simp
    · split <;> simp
section
variable {w : World} {A : Option Addr} {c : Nat} {L : List Pr}
set_option maxHeartbeats 8000000 in
theorem kadd_any (hr : RdQ w A L) (hs : Srt L) (hl : L.length ≤ 5000) (most : Int) (hmo : 0 ≤ most ∧ most ≤ 2000000) (n h : Int) (_ : 0 ≤ n ∧ n ≤ 4096) (_ : 0 ≤ h ∧ h ≤ 65536) (p : Pf) (k : Int) :
    Calls Try.prog 54 #[.agg #[.slice A L.length c, .int .i64 most, .int .i64 n, .int .i64 h], .agg #[.int .u64 (u p.a.hi), .int .u64 (u p.a.lo), .bool p.a.v6, .int .i64 p.n], .int .i64 k] w (KAddPost w n h (addQ n h L p k) (addE n h L p k)) := by
  have HRD := Lib.hid hr
  have key : ∀ E w', Below w.heap.size w w' → KAddPost w n h L E (.returned (.tuple #[.agg #[.slice A L.length c, .int .i64 most, .int .i64 n, .int .i64 h], .int .i64 E])) w' := fun E w' hb => ⟨A, c, most, rfl, hr.keep hb (Nat.le_refl _), hmo, hb⟩
  have cs := rpsane_any p
  have cp := fun W (hr : RdQ W A L) (hp : psane p = true) => kput_yes (c := c) hr hs (by omega) most (by omega) p k hp
  have hps := fun (hp : psane p = true) => put_srt (v := k) hs hp
  have hpl := fun (hp : psane p = true) => put_len (v := k) hs hp
  have hne : putL p k L ≠ [] := put_ne p k L
  have hfb : fitsB n h L p k = (decide (((putL p k L).length : Int) ≤ n) && decide ((unl (hopsL (putL p k L)) : Int) ≤ h)) := rfl
  clear hr
  cases hp : psane p
  · have e1 : addE n h L p k = 1 := by unfold addE; rw [hp]; rfl
    have e2 : addQ n h L p k = L := by unfold addQ; rw [e1]; rfl
    rw [e1, e2]
    rw [hp] at cs
    have CS := Lib.hid cs
    have KEY := Lib.hid (key 1)
    clear cs cp hps hpl hne hfb key hp e1 e2 hs
    go_enter Try.func54, Try.ntmps54
    go_wp2_with fail
    refine (CS.out _).mono ?_
    rintro e w1 ⟨rfl, hw1⟩
    have b1 : Below w.heap.size w w1 := below_of (by go_grown) hw1
    have hV : VBox w1 w.heap.size A L.length c most n h := VBox.keep (by refine ⟨?_, ?_, ?_, ?_, ?_⟩ <;> first | (go_simp; done) | (go_simp <;> rfl) | go_size) hw1
    have hP : PBox w1 (w.heap.size + 1) p := PBox.keep (by exact ⟨by go_simp <;> rfl, by go_simp <;> rfl, by go_simp <;> rfl, by go_simp <;> rfl, by go_simp <;> rfl, by go_simp <;> rfl, by go_simp <;> rfl, by go_simp <;> rfl, by go_size⟩) hw1
    have h3 : w1.heap[w.heap.size + 1 + 1]? = some (.cells #[.slice none 0 0, .int .i64 0, .int .i64 0, .int .i64 0] 37 (0, 0)) := (hw1.block (w.heap.size + 1 + 1) (by go_size)).trans (by repeat (first | (refine hp_new ?_; (simp; done)) | (refine hp_old ?_ ?_; · (first | (simp; done) | (simp; omega)))))
    have z3 := lt_of_block h3
    obtain ⟨v0, v1, v2, v3, vz⟩ := id hV
    clear hw1 CS
    clear hV hP
    -- w1: the world, b1: its Below, 1: the errno
    have r0 : w1.cell? ⟨w.heap.size + 1 + 1, 0, none⟩ = some (.slice none 0 0) := by rw [cell_row h3]; rfl
    have r1 : w1.cell? ⟨w.heap.size + 1 + 1, 1, none⟩ = some (.int .i64 0) := by rw [cell_row h3]; rfl
    have r2 : w1.cell? ⟨w.heap.size + 1 + 1, 2, none⟩ = some (.int .i64 0) := by rw [cell_row h3]; rfl
    have r3 : w1.cell? ⟨w.heap.size + 1 + 1, 3, none⟩ = some (.int .i64 0) := by rw [cell_row h3]; rfl
    have q0 := frozen_of_row w1 (w.heap.size + 1 + 1) 0 _ _ h3
    have q1 := frozen_of_row w1 (w.heap.size + 1 + 1) 1 _ _ h3
    have q2 := frozen_of_row w1 (w.heap.size + 1 + 1) 2 _ _ h3
    have q3 := frozen_of_row w1 (w.heap.size + 1 + 1) 3 _ _ h3
    clear h3
    go_wp2
    refine bodyPost_ret (v := .tuple #[.agg #[.slice A L.length c, .int .i64 most, .int .i64 n, .int .i64 h], .int .i64 1]) (by simp [*, results, Try.results54, go_sem] <;> rfl) rfl ?_
    exact KEY.out _ ((b1).trans (((((Below.refl _ _).setCell (by simp; omega) _).setCell (by simp; omega) _).setCell (by simp; omega) _).setCell (by simp; omega) _))
  · rw [hp] at cs
    have CS := Lib.hid cs
    by_cases hk : 0 ≤ k ∧ k ≤ 65535
    · have hZs := hps hp
      have hZl := hpl hp
      have cp' := fun W hr => cp W hr hp
      obtain ⟨Z, hZ⟩ : ∃ Z, putL p k L = Z := ⟨_, rfl⟩
      rw [hZ] at hZs hZl cp' hne hfb
      have hZ9 : Z.length ≤ 5001 := by rw [hZl]; split <;> omega
      have ch := fun W B d (hr : RdQ W B Z) => khops_any (c := d) hr (by omega)
      have hnb := nodes_bd Z hZs.1
      obtain ⟨U, hU⟩ : ∃ U, unl (hopsL Z) = U := ⟨_, rfl⟩
      rw [hU] at ch hfb
      obtain ⟨NN, hNN⟩ : ∃ NN, Z.length = NN := ⟨_, rfl⟩
      obtain ⟨R, hR⟩ : ∃ R, max most (nodesL Z) = R := ⟨_, rfl⟩
      have hRb : 0 ≤ R ∧ R ≤ 2000000 := by omega
      rw [hNN, hR] at cp'
      rw [hNN] at ch hfb hZ9
      have CP := Lib.hid cp'
      have CH := Lib.hid ch
      have hk1 : decide (k < 0) = false := by simp; omega
      have hk2 : decide (65535 < k) = false := by simp; omega
      have HNE := Lib.hid hne
      have HFB := Lib.hid hfb
      have HNN := Lib.hid hNN
      have hE : addE n h L p k = if fitsB n h L p k = true then 0 else 3 := by unfold addE; rw [if_pos hp, if_pos hk]
      have hQ : addE n h L p k = 0 → addQ n h L p k = Z := fun e => by unfold addQ; rw [if_pos e]; exact hZ
      have hQ' : addE n h L p k = 3 → addQ n h L p k = L := fun e => by unfold addQ; rw [if_neg (by rw [e]; decide)]
      have HE := Lib.hid hE
      have HQ := Lib.hid hQ
      have HQ' := Lib.hid hQ'
      have KEY := Lib.hid (key 3)
      clear cs cp cp' ch hps hpl hne hfb key hZs hZl hZ hnb hU hNN hR hE hQ hQ' hs hp hk
      by_cases g1 : n < (NN : Int)
      · have e1 : addE n h L p k = 3 := by rw [HE.out, HFB.out, decide_eq_false (by omega)]; rfl
        rw [e1, HQ'.out e1]
        have tg : decide (n < (NN : Int)) = true := decide_eq_true g1
        clear e1 g1
        go_enter Try.func54, Try.ntmps54
        go_wp2_with fail
        refine (CS.out _).mono ?_
        rintro e w1 ⟨rfl, hw1⟩
        have b1 : Below w.heap.size w w1 := below_of (by go_grown) hw1
        have hV : VBox w1 w.heap.size A L.length c most n h := VBox.keep (by refine ⟨?_, ?_, ?_, ?_, ?_⟩ <;> first | (go_simp; done) | (go_simp <;> rfl) | go_size) hw1
        have hP : PBox w1 (w.heap.size + 1) p := PBox.keep (by exact ⟨by go_simp <;> rfl, by go_simp <;> rfl, by go_simp <;> rfl, by go_simp <;> rfl, by go_simp <;> rfl, by go_simp <;> rfl, by go_simp <;> rfl, by go_simp <;> rfl, by go_size⟩) hw1
        have h3 : w1.heap[w.heap.size + 1 + 1]? = some (.cells #[.slice none 0 0, .int .i64 0, .int .i64 0, .int .i64 0] 37 (0, 0)) := (hw1.block (w.heap.size + 1 + 1) (by go_size)).trans (by repeat (first | (refine hp_new ?_; (simp; done)) | (refine hp_old ?_ ?_; · (first | (simp; done) | (simp; omega)))))
        have z3 := lt_of_block h3
        obtain ⟨v0, v1, v2, v3, vz⟩ := id hV
        clear hw1 CS
        obtain ⟨pa, pb, pc, pg, -, -, -, -, pz⟩ := id hP
        have HV := Lib.hid hV
        clear hV hP
        go_wp2_with fail
        refine (CP.out _ (HRD.out.keep b1 (Nat.le_refl _))).mono ?_
        rintro e w2 ⟨A', c', rfl, hrz, hG, hw2⟩
        have b2 := b1.trans (hw2.mono b1.size)
        have HG : Hid (∀ g off, A' = some ⟨g, off, none⟩ → Z ≠ [] → w1.heap.size ≤ g) := Lib.hid hG
        replace h3 := (hw2.block _ z3).trans h3
        have HV2 := Lib.hid (HV.out.keep hw2)
        have y2 := hw2.size
        have HRZ2 := Lib.hid hrz
        clear hrz hG hw2 HV pa pb pc pg pz v0 v1 v2 v3 vz CP
        go_upto_region 6 with fail
        generalize hW : World.alloc _ _ = W
        have hBW : Below w2.heap.size w2 W := by subst hW; go_grown
        have hK : KBox W w2.heap.size A' NN c' R := by subst hW; exact (by refine ⟨?_, ?_, ?_⟩ <;> first | (go_simp; done) | (go_simp <;> rfl) | go_size)
        obtain ⟨k0, k1, kz⟩ := id hK
        replace h3 := (hBW.block _ (by omega)).trans h3
        obtain ⟨v0, v1, v2, v3, vz⟩ := id (HV2.out.keep hBW)
        have b3 := b2.trans (hBW.mono b2.size)
        have HRZ := Lib.hid (HRZ2.out.keep hBW (Nat.le_refl _))
        have y3 := hBW.size
        clear hW hK hBW HV2 HRZ2
        have Lk0 := fun x : Later W.heap.size W => (x.cell kz).trans k0
        have Lv2 := fun x : Later W.heap.size W => (x.cell vz).trans v2
        have Lv3 := fun x : Later W.heap.size W => (x.cell vz).trans v3
        refine region_later W.heap.size (by kernel_rfl) (by kernel_rfl) ?_
        repeat (go_big_quiet_step (fail))
        refine wpQuiet_nil ?_
        intro x
        have hx := x.below
        generalize x.at = V at hx ⊢
        clear x Lk0 Lv2 Lv3
        replace h3 := (hx.block _ (by omega)).trans h3
        replace HRZ := Lib.hid (HRZ.out.keep hx (Nat.le_refl _))
        replace k0 := (hx.cell kz).trans k0
        replace k1 := (hx.cell kz).trans k1
        replace v0 := (hx.cell vz).trans v0
        replace v1 := (hx.cell vz).trans v1
        replace v2 := (hx.cell vz).trans v2
        replace v3 := (hx.cell vz).trans v3
        have bV := b3.trans (hx.mono b3.size)
        clear hx tg
        clear k0 k1
        -- V: the world, bV: its Below, 3: the errno
        have r0 : V.cell? ⟨w.heap.size + 1 + 1, 0, none⟩ = some (.slice none 0 0) := by rw [cell_row h3]; rfl
        have r1 : V.cell? ⟨w.heap.size + 1 + 1, 1, none⟩ = some (.int .i64 0) := by rw [cell_row h3]; rfl
        have r2 : V.cell? ⟨w.heap.size + 1 + 1, 2, none⟩ = some (.int .i64 0) := by rw [cell_row h3]; rfl
        have r3 : V.cell? ⟨w.heap.size + 1 + 1, 3, none⟩ = some (.int .i64 0) := by rw [cell_row h3]; rfl
        have q0 := frozen_of_row V (w.heap.size + 1 + 1) 0 _ _ h3
        have q1 := frozen_of_row V (w.heap.size + 1 + 1) 1 _ _ h3
        have q2 := frozen_of_row V (w.heap.size + 1 + 1) 2 _ _ h3
        have q3 := frozen_of_row V (w.heap.size + 1 + 1) 3 _ _ h3
        clear h3
        go_wp2
        refine bodyPost_ret (v := .tuple #[.agg #[.slice A L.length c, .int .i64 most, .int .i64 n, .int .i64 h], .int .i64 3]) (by simp [*, results, Try.results54, go_sem] <;> rfl) rfl ?_
        exact KEY.out _ ((bV).trans (((((Below.refl _ _).setCell (by simp; omega) _).setCell (by simp; omega) _).setCell (by simp; omega) _).setCell (by simp; omega) _))
      · have tg : decide (n < (NN : Int)) = false := decide_eq_false g1
        by_cases g2 : h < (U : Int)
        · have e1 : addE n h L p k = 3 := by rw [HE.out, HFB.out, decide_eq_true (by omega), decide_eq_false (by omega)]; rfl
          rw [e1, HQ'.out e1]
          have tg2 : decide (h < (U : Int)) = true := decide_eq_true g2
          clear e1 g1 g2
          go_enter Try.func54, Try.ntmps54
          go_wp2_with fail
          refine (CS.out _).mono ?_
          rintro e w1 ⟨rfl, hw1⟩
          have b1 : Below w.heap.size w w1 := below_of (by go_grown) hw1
          have hV : VBox w1 w.heap.size A L.length c most n h := VBox.keep (by refine ⟨?_, ?_, ?_, ?_, ?_⟩ <;> first | (go_simp; done) | (go_simp <;> rfl) | go_size) hw1
          have hP : PBox w1 (w.heap.size + 1) p := PBox.keep (by exact ⟨by go_simp <;> rfl, by go_simp <;> rfl, by go_simp <;> rfl, by go_simp <;> rfl, by go_simp <;> rfl, by go_simp <;> rfl, by go_simp <;> rfl, by go_simp <;> rfl, by go_size⟩) hw1
          have h3 : w1.heap[w.heap.size + 1 + 1]? = some (.cells #[.slice none 0 0, .int .i64 0, .int .i64 0, .int .i64 0] 37 (0, 0)) := (hw1.block (w.heap.size + 1 + 1) (by go_size)).trans (by repeat (first | (refine hp_new ?_; (simp; done)) | (refine hp_old ?_ ?_; · (first | (simp; done) | (simp; omega)))))
          have z3 := lt_of_block h3
          obtain ⟨v0, v1, v2, v3, vz⟩ := id hV
          clear hw1 CS
          obtain ⟨pa, pb, pc, pg, -, -, -, -, pz⟩ := id hP
          have HV := Lib.hid hV
          clear hV hP
          go_wp2_with fail
          refine (CP.out _ (HRD.out.keep b1 (Nat.le_refl _))).mono ?_
          rintro e w2 ⟨A', c', rfl, hrz, hG, hw2⟩
          have b2 := b1.trans (hw2.mono b1.size)
          have HG : Hid (∀ g off, A' = some ⟨g, off, none⟩ → Z ≠ [] → w1.heap.size ≤ g) := Lib.hid hG
          replace h3 := (hw2.block _ z3).trans h3
          have HV2 := Lib.hid (HV.out.keep hw2)
          have y2 := hw2.size
          have HRZ2 := Lib.hid hrz
          clear hrz hG hw2 HV pa pb pc pg pz v0 v1 v2 v3 vz CP
          go_upto_region 6 with fail
          generalize hW : World.alloc _ _ = W
          have hBW : Below w2.heap.size w2 W := by subst hW; go_grown
          have hK : KBox W w2.heap.size A' NN c' R := by subst hW; exact (by refine ⟨?_, ?_, ?_⟩ <;> first | (go_simp; done) | (go_simp <;> rfl) | go_size)
          obtain ⟨k0, k1, kz⟩ := id hK
          replace h3 := (hBW.block _ (by omega)).trans h3
          obtain ⟨v0, v1, v2, v3, vz⟩ := id (HV2.out.keep hBW)
          have b3 := b2.trans (hBW.mono b2.size)
          have HRZ := Lib.hid (HRZ2.out.keep hBW (Nat.le_refl _))
          have y3 := hBW.size
          clear hW hK hBW HV2 HRZ2
          have Lk0 := fun x : Later W.heap.size W => (x.cell kz).trans k0
          have Lv2 := fun x : Later W.heap.size W => (x.cell vz).trans v2
          have Lv3 := fun x : Later W.heap.size W => (x.cell vz).trans v3
          refine region_later W.heap.size (by kernel_rfl) (by kernel_rfl) ?_
          repeat (go_big_quiet_step ((go_at_call 97; exact later_of (Nat.le_refl _) (CH.out _ _ _ (HRZ.out.keep (Later.below _) (Nat.le_refl _))))))
          refine wpQuiet_nil ?_
          intro x
          have hx := x.below
          generalize x.at = V at hx ⊢
          clear x Lk0 Lv2 Lv3
          replace h3 := (hx.block _ (by omega)).trans h3
          replace HRZ := Lib.hid (HRZ.out.keep hx (Nat.le_refl _))
          replace k0 := (hx.cell kz).trans k0
          replace k1 := (hx.cell kz).trans k1
          replace v0 := (hx.cell vz).trans v0
          replace v1 := (hx.cell vz).trans v1
          replace v2 := (hx.cell vz).trans v2
          replace v3 := (hx.cell vz).trans v3
          have bV := b3.trans (hx.mono b3.size)
          clear hx tg
          clear k0 k1
          -- V: the world, bV: its Below, 3: the errno
          have r0 : V.cell? ⟨w.heap.size + 1 + 1, 0, none⟩ = some (.slice none 0 0) := by rw [cell_row h3]; rfl
          have r1 : V.cell? ⟨w.heap.size + 1 + 1, 1, none⟩ = some (.int .i64 0) := by rw [cell_row h3]; rfl
          have r2 : V.cell? ⟨w.heap.size + 1 + 1, 2, none⟩ = some (.int .i64 0) := by rw [cell_row h3]; rfl
          have r3 : V.cell? ⟨w.heap.size + 1 + 1, 3, none⟩ = some (.int .i64 0) := by rw [cell_row h3]; rfl
          have q0 := frozen_of_row V (w.heap.size + 1 + 1) 0 _ _ h3
          have q1 := frozen_of_row V (w.heap.size + 1 + 1) 1 _ _ h3
          have q2 := frozen_of_row V (w.heap.size + 1 + 1) 2 _ _ h3
          have q3 := frozen_of_row V (w.heap.size + 1 + 1) 3 _ _ h3
          clear h3
          go_wp2
          refine bodyPost_ret (v := .tuple #[.agg #[.slice A L.length c, .int .i64 most, .int .i64 n, .int .i64 h], .int .i64 3]) (by simp [*, results, Try.results54, go_sem] <;> rfl) rfl ?_
          exact KEY.out _ ((bV).trans (((((Below.refl _ _).setCell (by simp; omega) _).setCell (by simp; omega) _).setCell (by simp; omega) _).setCell (by simp; omega) _))
        · have e1 : addE n h L p k = 0 := by rw [HE.out, HFB.out, decide_eq_true (by omega), decide_eq_true (by omega)]; rfl
          rw [e1, HQ.out e1]
          have tg2 : decide (h < (U : Int)) = false := decide_eq_false g2
          clear e1 g1 g2 KEY
          go_enter Try.func54, Try.ntmps54
          go_wp2_with fail
          refine (CS.out _).mono ?_
          rintro e w1 ⟨rfl, hw1⟩
          have b1 : Below w.heap.size w w1 := below_of (by go_grown) hw1
          have hV : VBox w1 w.heap.size A L.length c most n h := VBox.keep (by refine ⟨?_, ?_, ?_, ?_, ?_⟩ <;> first | (go_simp; done) | (go_simp <;> rfl) | go_size) hw1
          have hP : PBox w1 (w.heap.size + 1) p := PBox.keep (by exact ⟨by go_simp <;> rfl, by go_simp <;> rfl, by go_simp <;> rfl, by go_simp <;> rfl, by go_simp <;> rfl, by go_simp <;> rfl, by go_simp <;> rfl, by go_simp <;> rfl, by go_size⟩) hw1
          have h3 : w1.heap[w.heap.size + 1 + 1]? = some (.cells #[.slice none 0 0, .int .i64 0, .int .i64 0, .int .i64 0] 37 (0, 0)) := (hw1.block (w.heap.size + 1 + 1) (by go_size)).trans (by repeat (first | (refine hp_new ?_; (simp; done)) | (refine hp_old ?_ ?_; · (first | (simp; done) | (simp; omega)))))
          have z3 := lt_of_block h3
          obtain ⟨v0, v1, v2, v3, vz⟩ := id hV
          clear hw1 CS
          obtain ⟨pa, pb, pc, pg, -, -, -, -, pz⟩ := id hP
          have HV := Lib.hid hV
          clear hV hP
          go_wp2_with fail
          refine (CP.out _ (HRD.out.keep b1 (Nat.le_refl _))).mono ?_
          rintro e w2 ⟨A', c', rfl, hrz, hG, hw2⟩
          have b2 := b1.trans (hw2.mono b1.size)
          have HG : Hid (∀ g off, A' = some ⟨g, off, none⟩ → Z ≠ [] → w1.heap.size ≤ g) := Lib.hid hG
          replace h3 := (hw2.block _ z3).trans h3
          have HV2 := Lib.hid (HV.out.keep hw2)
          have y2 := hw2.size
          have HRZ2 := Lib.hid hrz
          clear hrz hG hw2 HV pa pb pc pg pz v0 v1 v2 v3 vz CP
          go_upto_region 6 with fail
          generalize hW : World.alloc _ _ = W
          have hBW : Below w2.heap.size w2 W := by subst hW; go_grown
          have hK : KBox W w2.heap.size A' NN c' R := by subst hW; exact (by refine ⟨?_, ?_, ?_⟩ <;> first | (go_simp; done) | (go_simp <;> rfl) | go_size)
          obtain ⟨k0, k1, kz⟩ := id hK
          replace h3 := (hBW.block _ (by omega)).trans h3
          obtain ⟨v0, v1, v2, v3, vz⟩ := id (HV2.out.keep hBW)
          have b3 := b2.trans (hBW.mono b2.size)
          have HRZ := Lib.hid (HRZ2.out.keep hBW (Nat.le_refl _))
          have y3 := hBW.size
          clear hW hK hBW HV2 HRZ2
          have Lk0 := fun x : Later W.heap.size W => (x.cell kz).trans k0
          have Lv2 := fun x : Later W.heap.size W => (x.cell vz).trans v2
          have Lv3 := fun x : Later W.heap.size W => (x.cell vz).trans v3
          refine region_later W.heap.size (by kernel_rfl) (by kernel_rfl) ?_
          repeat (go_big_quiet_step ((go_at_call 97; exact later_of (Nat.le_refl _) (CH.out _ _ _ (HRZ.out.keep (Later.below _) (Nat.le_refl _))))))
          refine wpQuiet_nil ?_
          intro x
          have hx := x.below
          generalize x.at = V at hx ⊢
          clear x Lk0 Lv2 Lv3
          replace h3 := (hx.block _ (by omega)).trans h3
          replace HRZ := Lib.hid (HRZ.out.keep hx (Nat.le_refl _))
          replace k0 := (hx.cell kz).trans k0
          replace k1 := (hx.cell kz).trans k1
          replace v0 := (hx.cell vz).trans v0
          replace v1 := (hx.cell vz).trans v1
          replace v2 := (hx.cell vz).trans v2
          replace v3 := (hx.cell vz).trans v3
          have bV := b3.trans (hx.mono b3.size)
          clear hx tg
          have r0 : V.cell? ⟨w.heap.size + 1 + 1, 0, none⟩ = some (.slice none 0 0) := by rw [cell_row h3]; rfl
          have r1 : V.cell? ⟨w.heap.size + 1 + 1, 1, none⟩ = some (.int .i64 0) := by rw [cell_row h3]; rfl
          have r2 : V.cell? ⟨w.heap.size + 1 + 1, 2, none⟩ = some (.int .i64 0) := by rw [cell_row h3]; rfl
          have r3 : V.cell? ⟨w.heap.size + 1 + 1, 3, none⟩ = some (.int .i64 0) := by rw [cell_row h3]; rfl
          have q0 := frozen_of_row V (w.heap.size + 1 + 1) 0 _ _ h3
          have q1 := frozen_of_row V (w.heap.size + 1 + 1) 1 _ _ h3
          have q2 := frozen_of_row V (w.heap.size + 1 + 1) 2 _ _ h3
          have q3 := frozen_of_row V (w.heap.size + 1 + 1) 3 _ _ h3
          clear h3
          go_wp2
          refine bodyPost_ret (v := .tuple #[.agg #[.slice A' NN c', .int .i64 R, .int .i64 n, .int .i64 h], .int .i64 0]) (by simp [*, results, Try.results54, go_sem] <;> rfl) rfl ?_
          refine ⟨A', c', R, by rw [HNN.out], ?_, hRb, bV.trans (((((Below.refl _ _).setCell (by simp; omega) _).setCell (by simp; omega) _).setCell (by simp; omega) _).setCell (by simp; omega) _)⟩
          intro hne
          obtain ⟨g, off, e, hg, hc⟩ := HRZ.out hne
          have g1 := HG.out g off e hne
          have n2 : ¬ w.heap.size + 1 + 1 = g := by omega
          have n4 : ¬ g = w.heap.size + 1 + 1 := by omega
          refine ⟨g, off, e, by simpa using hg, fun i hi => ?_⟩
          obtain ⟨c0, c1, c2, c3, c4⟩ := hc i hi
          clear k0 k1 r0 r1 r2 r3 q0 q1 q2 q3 v0 v1 v2 v3
          refine ⟨?_, ?_, ?_, ?_, ?_⟩
          all_goals (go_simp; try assumption)
    · have e1 : addE n h L p k = 4 := by unfold addE; rw [if_pos hp, if_neg hk]
      have e2 : addQ n h L p k = L := by unfold addQ; rw [e1]; rfl
      rw [e1, e2]
      have KEY := Lib.hid (key 4)
      have HK := Lib.hid hk
      clear cs cp hps hpl hne hfb key hp e1 e2 hs hk
      by_cases h1 : k < 0
      · have hk1 : decide (k < 0) = true := decide_eq_true h1
        go_enter Try.func54, Try.ntmps54
        go_wp2_with fail
        refine (CS.out _).mono ?_
        rintro e w1 ⟨rfl, hw1⟩
        have b1 : Below w.heap.size w w1 := below_of (by go_grown) hw1
        have hV : VBox w1 w.heap.size A L.length c most n h := VBox.keep (by refine ⟨?_, ?_, ?_, ?_, ?_⟩ <;> first | (go_simp; done) | (go_simp <;> rfl) | go_size) hw1
        have hP : PBox w1 (w.heap.size + 1) p := PBox.keep (by exact ⟨by go_simp <;> rfl, by go_simp <;> rfl, by go_simp <;> rfl, by go_simp <;> rfl, by go_simp <;> rfl, by go_simp <;> rfl, by go_simp <;> rfl, by go_simp <;> rfl, by go_size⟩) hw1
        have h3 : w1.heap[w.heap.size + 1 + 1]? = some (.cells #[.slice none 0 0, .int .i64 0, .int .i64 0, .int .i64 0] 37 (0, 0)) := (hw1.block (w.heap.size + 1 + 1) (by go_size)).trans (by repeat (first | (refine hp_new ?_; (simp; done)) | (refine hp_old ?_ ?_; · (first | (simp; done) | (simp; omega)))))
        have z3 := lt_of_block h3
        obtain ⟨v0, v1, v2, v3, vz⟩ := id hV
        clear hw1 CS
        clear hV hP
        -- w1: the world, b1: its Below, 4: the errno
        have r0 : w1.cell? ⟨w.heap.size + 1 + 1, 0, none⟩ = some (.slice none 0 0) := by rw [cell_row h3]; rfl
        have r1 : w1.cell? ⟨w.heap.size + 1 + 1, 1, none⟩ = some (.int .i64 0) := by rw [cell_row h3]; rfl
        have r2 : w1.cell? ⟨w.heap.size + 1 + 1, 2, none⟩ = some (.int .i64 0) := by rw [cell_row h3]; rfl
        have r3 : w1.cell? ⟨w.heap.size + 1 + 1, 3, none⟩ = some (.int .i64 0) := by rw [cell_row h3]; rfl
        have q0 := frozen_of_row w1 (w.heap.size + 1 + 1) 0 _ _ h3
        have q1 := frozen_of_row w1 (w.heap.size + 1 + 1) 1 _ _ h3
        have q2 := frozen_of_row w1 (w.heap.size + 1 + 1) 2 _ _ h3
        have q3 := frozen_of_row w1 (w.heap.size + 1 + 1) 3 _ _ h3
        clear h3
        go_wp2
        refine bodyPost_ret (v := .tuple #[.agg #[.slice A L.length c, .int .i64 most, .int .i64 n, .int .i64 h], .int .i64 4]) (by simp [*, results, Try.results54, go_sem] <;> rfl) rfl ?_
        exact KEY.out _ ((b1).trans (((((Below.refl _ _).setCell (by simp; omega) _).setCell (by simp; omega) _).setCell (by simp; omega) _).setCell (by simp; omega) _))
      · have hk1 : decide (k < 0) = false := decide_eq_false h1
        have hk2 : decide (65535 < k) = true := decide_eq_true (by have := HK.out; omega)
        go_enter Try.func54, Try.ntmps54
        go_wp2_with fail
        refine (CS.out _).mono ?_
        rintro e w1 ⟨rfl, hw1⟩
        have b1 : Below w.heap.size w w1 := below_of (by go_grown) hw1
        have hV : VBox w1 w.heap.size A L.length c most n h := VBox.keep (by refine ⟨?_, ?_, ?_, ?_, ?_⟩ <;> first | (go_simp; done) | (go_simp <;> rfl) | go_size) hw1
        have hP : PBox w1 (w.heap.size + 1) p := PBox.keep (by exact ⟨by go_simp <;> rfl, by go_simp <;> rfl, by go_simp <;> rfl, by go_simp <;> rfl, by go_simp <;> rfl, by go_simp <;> rfl, by go_simp <;> rfl, by go_simp <;> rfl, by go_size⟩) hw1
        have h3 : w1.heap[w.heap.size + 1 + 1]? = some (.cells #[.slice none 0 0, .int .i64 0, .int .i64 0, .int .i64 0] 37 (0, 0)) := (hw1.block (w.heap.size + 1 + 1) (by go_size)).trans (by repeat (first | (refine hp_new ?_; (simp; done)) | (refine hp_old ?_ ?_; · (first | (simp; done) | (simp; omega)))))
        have z3 := lt_of_block h3
        obtain ⟨v0, v1, v2, v3, vz⟩ := id hV
        clear hw1 CS
        clear hV hP
        -- w1: the world, b1: its Below, 4: the errno
        have r0 : w1.cell? ⟨w.heap.size + 1 + 1, 0, none⟩ = some (.slice none 0 0) := by rw [cell_row h3]; rfl
        have r1 : w1.cell? ⟨w.heap.size + 1 + 1, 1, none⟩ = some (.int .i64 0) := by rw [cell_row h3]; rfl
        have r2 : w1.cell? ⟨w.heap.size + 1 + 1, 2, none⟩ = some (.int .i64 0) := by rw [cell_row h3]; rfl
        have r3 : w1.cell? ⟨w.heap.size + 1 + 1, 3, none⟩ = some (.int .i64 0) := by rw [cell_row h3]; rfl
        have q0 := frozen_of_row w1 (w.heap.size + 1 + 1) 0 _ _ h3
        have q1 := frozen_of_row w1 (w.heap.size + 1 + 1) 1 _ _ h3
        have q2 := frozen_of_row w1 (w.heap.size + 1 + 1) 2 _ _ h3
        have q3 := frozen_of_row w1 (w.heap.size + 1 + 1) 3 _ _ h3
        clear h3
        go_wp2
        refine bodyPost_ret (v := .tuple #[.agg #[.slice A L.length c, .int .i64 most, .int .i64 n, .int .i64 h], .int .i64 4]) (by simp [*, results, Try.results54, go_sem] <;> rfl) rfl ?_
        exact KEY.out _ ((b1).trans (((((Below.refl _ _).setCell (by simp; omega) _).setCell (by simp; omega) _).setCell (by simp; omega) _).setCell (by simp; omega) _))
end

end Go.Proofs.Ytnmjofccedjkkaa

namespace Go.Proofs.Ytnmjofccedjkkaa
open Go.RowKit Go.Maps
set_option maxRecDepth 100000

/-- A block of the document's routes holds no pairs. -/
theorem rdq_ne {w : World} {A : Option Addr} {l : List Pr} (h : RdQ w A l) {b : Nat} {x y z : Int} {t : TypeId} {B : Option Addr} {n c : Nat} (hb : w.heap[b]? = some (.cells #[.slice B n c, .int .i64 x, .int .i64 y, .int .i64 z] t (0, 0))) : ∀ g off, A = some ⟨g, off, none⟩ → l ≠ [] → g ≠ b := by
  rintro g off rfl hn rfl
  obtain ⟨g', off', e, hg, hc⟩ := h hn
  simp only [Option.some.injEq, Addr.mk.injEq, and_true] at e
  obtain ⟨rfl, rfl⟩ := e
  have hpos : 0 < l.length := List.length_pos_iff.2 hn
  have h0 := (hc 0 hpos).1
  rw [cell_row hb] at h0
  match off, h0 with
  | 0, h0 => simp at h0
  | 1, h0 => simp at h0
  | 2, h0 => simp at h0
  | 3, h0 => simp at h0
  | k + 4, h0 => simp at h0
theorem RdQ.turn {S : Nat → Prop} {w w' : World} {A : Option Addr} {ls : List Pr} (h : RdQ w A ls) (hf : Frm S w w') (hs : ∀ g off, A = some ⟨g, off, none⟩ → ls ≠ [] → ¬ S g) : RdQ w' A ls := fun hn => by
  obtain ⟨g, off, e, hg, hc⟩ := h hn
  have hS := hs g off e hn
  refine ⟨g, off, e, Nat.lt_of_lt_of_le hg hf.size, fun i hi => ?_⟩
  obtain ⟨c0, c1, c2, c3, c4⟩ := hc i hi
  exact ⟨(hf.cell (p := ⟨g, off + i * 5, none⟩) hg hS).trans c0, (hf.cell (p := ⟨g, off + i * 5 + 1, none⟩) hg hS).trans c1, (hf.cell (p := ⟨g, off + i * 5 + 2, none⟩) hg hS).trans c2, (hf.cell (p := ⟨g, off + i * 5 + 3, none⟩) hg hS).trans c3, (hf.cell (p := ⟨g, off + i * 5 + 4, none⟩) hg hS).trans c4⟩
def VBlk (w : World) (b : Nat) (A : Option Addr) (l c : Nat) (most n h : Int) : Prop := w.heap[b]? = some (.cells #[.slice A l c, .int .i64 most, .int .i64 n, .int .i64 h] 37 (0, 0))

theorem vblk_set {w : World} {b : Nat} {x0 x1 x2 x3 : Value} {A : Option Addr} {l c : Nat} {m n h : Int} (hb : w.heap[b]? = some (.cells #[x0, x1, x2, x3] 37 (0, 0))) : VBlk ((((w.setCell ⟨b, 0, none⟩ (.slice A l c)).setCell ⟨b, 1, none⟩ (.int .i64 m)).setCell ⟨b, 2, none⟩ (.int .i64 n)).setCell ⟨b, 3, none⟩ (.int .i64 h)) b A l c m n h := by
  have h0 := heap_setCell_same _ b 0 _ _ (.slice A l c) hb
  have h1 := heap_setCell_same _ b 1 _ _ (.int .i64 m) h0
  have h2 := heap_setCell_same _ b 2 _ _ (.int .i64 n) h1
  have h3 := heap_setCell_same _ b 3 _ _ (.int .i64 h) h2
  exact h3
def PlainPost (w : World) (L : List Pr) (e : Ending) (w' : World) : Prop := ∃ A c most, e = .returned (.agg #[.slice A L.length c, .int .i64 most, .int .i64 200, .int .i64 200]) ∧ RdQ w' A L ∧ Below w.heap.size w w'
theorem fill_srt (ls : List Pr) : ∀ k, k ≤ ls.length → Srt (fillK ls k).1 ∧ ((fillK ls k).1.length : Int) ≤ 200 := by
  intro k
  induction k with
  | zero => intro _; exact ⟨srt_nil, show ((0 : Nat) : Int) ≤ 200 by decide⟩
  | succ k ih =>
    intro hk
    obtain ⟨h1, h2⟩ := ih (by omega)
    rw [fillK_succ ls k (by omega)]
    simp only
    unfold addQ
    by_cases he : addE 200 200 (fillK ls k).1 ls[k].p ls[k].v = 0
    · rw [if_pos he]
      unfold addE at he
      by_cases hp : psane ls[k].p = true
      · rw [if_pos hp] at he
        refine ⟨put_srt h1 hp, ?_⟩
        split at he
        · split at he
          · rename_i hf
            unfold fitsB at hf
            rw [Bool.and_eq_true, decide_eq_true_iff] at hf
            exact hf.1
          · cases he
        · cases he
      · rw [if_neg hp] at he
        cases he
    · rw [if_neg he]
      exact ⟨h1, h2⟩

theorem kkeep {W w' : World} {b g o : Nat} {a0 a1 a2 a3 e0 e1 e2 e3 e4 : Value} (h : Below W.heap.size W w') (hb : b < W.heap.size) (hg : g < W.heap.size) (h0 : W.cell? ⟨b, 0, none⟩ = some a0) (h1 : W.cell? ⟨b, 1, none⟩ = some a1) (h2 : W.cell? ⟨b, 2, none⟩ = some a2) (h3 : W.cell? ⟨b, 3, none⟩ = some a3) (k0 : W.cell? ⟨g, o, none⟩ = some e0) (k1 : W.cell? ⟨g, o + 1, none⟩ = some e1) (k2 : W.cell? ⟨g, o + 2, none⟩ = some e2) (k3 : W.cell? ⟨g, o + 3, none⟩ = some e3) (k4 : W.cell? ⟨g, o + 4, none⟩ = some e4) :
    w'.cell? ⟨b, 0, none⟩ = some a0 ∧ w'.cell? ⟨b, 1, none⟩ = some a1 ∧ w'.cell? ⟨b, 2, none⟩ = some a2 ∧ w'.cell? ⟨b, 3, none⟩ = some a3 ∧ w'.cell? ⟨g, o, none⟩ = some e0 ∧ w'.cell? ⟨g, o + 1, none⟩ = some e1 ∧ w'.cell? ⟨g, o + 2, none⟩ = some e2 ∧ w'.cell? ⟨g, o + 3, none⟩ = some e3 ∧ w'.cell? ⟨g, o + 4, none⟩ = some e4 ∧ Below W.heap.size W w' :=
  ⟨(h.cell (p := ⟨b, 0, none⟩) hb).trans h0, (h.cell (p := ⟨b, 1, none⟩) hb).trans h1, (h.cell (p := ⟨b, 2, none⟩) hb).trans h2, (h.cell (p := ⟨b, 3, none⟩) hb).trans h3, (h.cell (p := ⟨g, o, none⟩) hg).trans k0, (h.cell (p := ⟨g, o + 1, none⟩) hg).trans k1, (h.cell (p := ⟨g, o + 2, none⟩) hg).trans k2, (h.cell (p := ⟨g, o + 3, none⟩) hg).trans k3, (h.cell (p := ⟨g, o + 4, none⟩) hg).trans k4, h⟩
theorem frm_set {b : Nat} {w w' : World} {p : Addr} {v : Value} (h : Frm (fun x => x = b) w w') (e : p.block = b) : Frm (fun x => x = b) w (w'.setCell p v) := h.setCell (Or.inl e) v
/-- A block that was made ahead of a call is behind it as it was. -/
theorem yv_then {G : Prop} {W w1 : World} {b : Nat} {o : Obj} (hb : Below W.heap.size W w1) (hlt : b < W.heap.size) (h0 : W.heap[b]? = some o) (k : w1.heap[b]? = some o ∧ b < w1.heap.size → G) : G := k ⟨(hb.block b hlt).trans h0, Nat.lt_of_lt_of_le hlt hb.size⟩
set_option maxHeartbeats 4000000 in
theorem plain_any (Al : Option Addr) (cap : Nat) (ls : List Pr) (w : World) (hr : RdQ w Al ls) (hl : ls.length ≤ 60) :
    Calls Try.prog 13 #[.slice Al ls.length cap] w (PlainPost w (fillK ls ls.length).1) := by
  have HRD := Lib.hid hr
  clear hr
  go_enter Try.func13, Try.ntmps13
  go_wp2_with fail
  refine (knew6_any _).mono ?_
  rintro e w1 ⟨rfl, hw1⟩
  have b1 : Below w.heap.size w w1 := below_of (by go_grown) hw1
  have h1 : w1.heap[w.heap.size]? = some (.cells #[.slice none 0 0, .int .i64 0, .int .i64 0, .int .i64 0] 37 (0, 0)) := (hw1.block (w.heap.size) (by go_size)).trans (by repeat (first | (refine hp_new ?_; (simp; done)) | (refine hp_old ?_ ?_; · (first | (simp; done) | (simp; omega)))))
  have z1 := lt_of_block h1
  clear hw1
  go_wp2_with fail
  generalize hW : World.alloc _ _ = W0
  have hB0 : Below w1.heap.size w1 W0 := by subst hW; go_grown
  have h2 : VBlk W0 w1.heap.size none 0 0 2 200 200 := by subst hW; unfold VBlk; repeat (first | (refine hp_new ?_; (simp; done)) | (refine hp_old ?_ ?_; · (first | (simp; done) | (simp; omega))))
  have h1' := (hB0.block _ z1).trans h1
  have b0 := b1.trans (hB0.mono b1.size)
  have H2 := Lib.hid h2
  have H1 := Lib.hid h1'
  have z2 := lt_of_block h2
  clear hW h2 h1 h1' hB0 b1
  go_loopw [4] (fun i wr => ∃ (k : Nat) (A : Option Addr) (c : Nat) (most : Int), k ≤ ls.length ∧ i = .int .i64 k ∧ VBlk wr w1.heap.size A (fillK ls k).1.length c most 200 200 ∧ RdQ wr A (fillK ls k).1 ∧ (0 ≤ most ∧ most ≤ 2000000) ∧ wr.heap[w.heap.size]? = some (.cells #[.slice none 0 0, .int .i64 0, .int .i64 0, .int .i64 0] 37 (0, 0)) ∧ Below w.heap.size w wr) (fun i _ => ls.length - (RowKit.intOf i).toNat)
  case atStart => exact ⟨0, none, 0, 2, Nat.zero_le _, rfl, H2.out, fun h => absurd rfl h, by decide, H1.out, b0⟩
  case round =>
    obtain ⟨k, A, c, most, hk, rfl, hv, hrq, hmo, hr1, hB⟩ := hrel
    have HRQ := Lib.hid hrq
    have HR1 := Lib.hid hr1
    have HV := Lib.hid hv
    have zv := lt_of_block hv
    clear hrq hr1 H1 H2 b0
    by_cases hlt : k < ls.length
    · -- HRD: the fact RdQ at w, ls: the list; k, hlt, hB : Below w.heap.size w wr. The cells of the k-th in wr: d0 .. d4
      obtain ⟨g, off, rfl, hg, hc⟩ := HRD.out (by intro e; rw [e] at hlt; cases hlt)
      obtain ⟨c0, c1, c2, c3, c4⟩ := hc k hlt
      have d0 := (hB.cell (p := ⟨g, off + k * 5, none⟩) hg).trans c0
      have d1 := (hB.cell (p := ⟨g, off + k * 5 + 1, none⟩) hg).trans c1
      have d2 := (hB.cell (p := ⟨g, off + k * 5 + 2, none⟩) hg).trans c2
      have d3 := (hB.cell (p := ⟨g, off + k * 5 + 3, none⟩) hg).trans c3
      have d4 := (hB.cell (p := ⟨g, off + k * 5 + 4, none⟩) hg).trans c4
      have gz : g < wr.heap.size := Nat.lt_of_lt_of_le hg hB.size
      clear c0 c1 c2 c3 c4 hc
      obtain ⟨hs1, hs2⟩ := fill_srt ls k hk
      have hsc := fillK_succ ls k hlt
      obtain ⟨y, hy⟩ : ∃ y, ls[k] = y := ⟨_, rfl⟩
      rw [hy] at d0 d1 d2 d3 d4 hsc
      obtain ⟨L, hL⟩ : ∃ L, (fillK ls k).1 = L := ⟨_, rfl⟩
      rw [hL] at hsc hs1 hs2 hv HV HRQ
      have hsc1 : (fillK ls (k + 1)).1 = addQ 200 200 L y.p y.v := by rw [hsc]
      obtain ⟨Z, hZ⟩ : ∃ Z, (fillK ls (k + 1)).1 = Z := ⟨_, rfl⟩
      rw [hZ] at hsc1
      have ca := fun W (hr : RdQ W A L) => kadd_any (c := c) hr hs1 (by omega) most hmo 200 200 (by decide) (by decide) y.p y.v
      rw [← hsc1] at ca
      obtain ⟨E, hE⟩ : ∃ E, addE 200 200 L y.p y.v = E := ⟨_, rfl⟩
      rw [hE] at ca
      have v0 : wr.cell? ⟨w1.heap.size, 0, none⟩ = some (.slice A L.length c) := by rw [cell_row hv]; rfl
      have v1 : wr.cell? ⟨w1.heap.size, 1, none⟩ = some (.int .i64 most) := by rw [cell_row hv]; rfl
      have v2 : wr.cell? ⟨w1.heap.size, 2, none⟩ = some (.int .i64 200) := by rw [cell_row hv]; rfl
      have v3 : wr.cell? ⟨w1.heap.size, 3, none⟩ = some (.int .i64 200) := by rw [cell_row hv]; rfl
      have CA := Lib.hid ca
      have HZ := Lib.hid hZ
      clear hy hL hsc hsc1 hs1 hs2 hE hZ ca hv
      obtain ⟨W, rfl⟩ : ∃ W, W = wr := ⟨_, rfl⟩
      go_upto_region 5 with fail
      go_cut [5, 6] (fun b s wx => (∃ E, s = .int .i64 E) ∧ ∃ q A' c' m', b = .pointer (some ⟨q, 0, none⟩) ∧ W.heap.size ≤ q ∧ VBox wx q A' Z.length c' m' 200 200 ∧ RdQ wx A' Z ∧ (0 ≤ m' ∧ m' ≤ 2000000) ∧ Below W.heap.size W wx)
      case first =>
        go_region_held3 (fun w' => w'.cell? ⟨w1.heap.size, 0, none⟩ = some (.slice A L.length c) ∧ w'.cell? ⟨w1.heap.size, 1, none⟩ = some (.int .i64 most) ∧ w'.cell? ⟨w1.heap.size, 2, none⟩ = some (.int .i64 200) ∧ w'.cell? ⟨w1.heap.size, 3, none⟩ = some (.int .i64 200) ∧ w'.cell? ⟨g, off + k * 5, none⟩ = some (.int .u64 (u y.p.a.hi)) ∧ w'.cell? ⟨g, off + k * 5 + 1, none⟩ = some (.int .u64 (u y.p.a.lo)) ∧ w'.cell? ⟨g, off + k * 5 + 2, none⟩ = some (.bool y.p.a.v6) ∧ w'.cell? ⟨g, off + k * 5 + 3, none⟩ = some (.int .i64 y.p.n) ∧ w'.cell? ⟨g, off + k * 5 + 4, none⟩ = some (.int .i64 y.v) ∧ Below W.heap.size W w')
          (first | exact kkeep hk5 zv gz v0 v1 v2 v3 d0 d1 d2 d3 d4 | (refine kkeep ?_ zv gz v0 v1 v2 v3 d0 d1 d2 d3 d4; go_grown))
          ((go_at_call 54; refine (CA.out _ (HRQ.out.keep (B := W.heap.size) (by go_grown) (Nat.le_refl _))).mono ?_; rintro e w5 ⟨A5, c5, m5, rfl, hr5, hm5, hw5⟩; have hk5 := below_of (w := W) (by go_grown) hw5; have zk5 := hk5.size; have HR5 := Lib.hid hr5; clear hr5; (try (refine yv_then (b := W.heap.size) (o := .cells #[.slice none 0 0, .int .i64 0, .int .i64 0, .int .i64 0] 37 (0, 0)) hw5 ?_ ?_ (fun y4 => ?_); go_size; (refine hp_new ?_; simp); obtain ⟨yb, yz⟩ := y4; have ya : w5.cell? ⟨W.heap.size, 0, none⟩ = some (.slice none 0 0) := (cell_row yb).trans rfl; have yc : w5.cell? ⟨W.heap.size, 1, none⟩ = some (.int .i64 0) := (cell_row yb).trans rfl; have yd : w5.cell? ⟨W.heap.size, 2, none⟩ = some (.int .i64 0) := (cell_row yb).trans rfl; have ye : w5.cell? ⟨W.heap.size, 3, none⟩ = some (.int .i64 0) := (cell_row yb).trans rfl; have y0 := frozen_of_row w5 W.heap.size 0 _ _ yb; have y1 := frozen_of_row w5 W.heap.size 1 _ _ yb; have y2 := frozen_of_row w5 W.heap.size 2 _ _ yb; have y3 := frozen_of_row w5 W.heap.size 3 _ _ yb; have YB := Lib.hid yb; clear yb))))
        all_goals (go_wp2_with fail; go_meet)
        all_goals first
          | exact ⟨⟨_, rfl⟩, w5.heap.size, A5, c5, m5, rfl, zk5, (by refine ⟨?_, ?_, ?_, ?_, ?_⟩ <;> first | (go_simp; done) | (go_simp <;> rfl) | go_size), HR5.out.keep (B := w5.heap.size) (by go_grown) (Nat.le_refl _), hm5, by go_grown⟩
          | exact ⟨⟨_, rfl⟩, W.heap.size, A5, c5, m5, rfl, Nat.le_refl _, (by refine ⟨?_, ?_, ?_, ?_, ?_⟩ <;> first | (go_simp; done) | (go_simp <;> rfl) | go_size), HR5.out.turn (S := fun x => x = W.heap.size) (frm_set (frm_set (frm_set (frm_set (Frm.refl _ _) rfl) rfl) rfl) rfl) (fun g off e hn => rdq_ne HR5.out YB.out g off e hn), hm5, by go_grown⟩
      case rest =>
        obtain ⟨⟨E', rfl⟩, q, A', c', m', rfl, hq, hV5, hr5, hm5, hbc⟩ := hcut
        have hv6 := (hbc.block _ zv).trans HV.out
        have hr6 := (hbc.block w.heap.size (by omega)).trans HR1.out
        have b6 := hB.trans (hbc.mono hB.size)
        have hnq := rdq_ne hr5 hv6
        obtain ⟨x0, x1, x2, x3, xz⟩ := id hV5
        have r0 : wc.cell? ⟨w1.heap.size, 0, none⟩ = some (.slice A L.length c) := by rw [cell_row hv6]; rfl
        have r1 : wc.cell? ⟨w1.heap.size, 1, none⟩ = some (.int .i64 most) := by rw [cell_row hv6]; rfl
        have r2 : wc.cell? ⟨w1.heap.size, 2, none⟩ = some (.int .i64 200) := by rw [cell_row hv6]; rfl
        have r3 : wc.cell? ⟨w1.heap.size, 3, none⟩ = some (.int .i64 200) := by rw [cell_row hv6]; rfl
        have q0 := frozen_of_row wc (w1.heap.size) 0 _ _ hv6
        have q1 := frozen_of_row wc (w1.heap.size) 1 _ _ hv6
        have q2 := frozen_of_row wc (w1.heap.size) 2 _ _ hv6
        have q3 := frozen_of_row wc (w1.heap.size) 3 _ _ hv6
        have HNQ := Lib.hid hnq
        have HV6 := Lib.hid hv6
        have HR6 := Lib.hid hr6
        have HQ5 := Lib.hid hr5
        have HM5 := Lib.hid hm5
        have Z1 := Lib.hid z1
        clear hv6 hr6 hnq hr5 hm5 hV5 hbc v0 v1 v2 v3 d0 d1 d2 d3 d4 CA HV HR1 HRQ
        go_wp2
        go_roundw
        case rel =>
          refine ⟨k + 1, A', c', m', by omega, by go_num, ?_, ?_, HM5.out, ?_, ?_⟩
          · rw [HZ.out]
            exact vblk_set HV6.out
          · rw [HZ.out]
            exact HQ5.out.turn (S := fun x => x = w1.heap.size) (frm_set (frm_set (frm_set (frm_set (Frm.refl _ _) rfl) rfl) rfl) rfl) (fun g off e hn => HNQ.out g off e hn)
          · have hne : w.heap.size ≠ w1.heap.size := by have := Z1.out; omega
            rw [Below.heap_setCell _ _ _ _ hne, Below.heap_setCell _ _ _ _ hne, Below.heap_setCell _ _ _ _ hne, Below.heap_setCell _ _ _ _ hne]
            exact HR6.out
          · have := Z1.out
            exact b6.trans (((((Below.refl _ _).setCell (by simp; omega) _).setCell (by simp; omega) _).setCell (by simp; omega) _).setCell (by simp; omega) _)
        case measure => simp [RowKit.intOf]; omega
    · obtain rfl : k = ls.length := by omega
      obtain ⟨L, hL⟩ : ∃ L, (fillK ls ls.length).1 = L := ⟨_, rfl⟩
      rw [hL] at hv HV HRQ
      have v0 : wr.cell? ⟨w1.heap.size, 0, none⟩ = some (.slice A L.length c) := by rw [cell_row hv]; rfl
      have v1 : wr.cell? ⟨w1.heap.size, 1, none⟩ = some (.int .i64 most) := by rw [cell_row hv]; rfl
      have v2 : wr.cell? ⟨w1.heap.size, 2, none⟩ = some (.int .i64 200) := by rw [cell_row hv]; rfl
      have v3 : wr.cell? ⟨w1.heap.size, 3, none⟩ = some (.int .i64 200) := by rw [cell_row hv]; rfl
      have hr1 := HR1.out
      have r0 : wr.cell? ⟨w.heap.size, 0, none⟩ = some (.slice none 0 0) := by rw [cell_row hr1]; rfl
      have r1 : wr.cell? ⟨w.heap.size, 1, none⟩ = some (.int .i64 0) := by rw [cell_row hr1]; rfl
      have r2 : wr.cell? ⟨w.heap.size, 2, none⟩ = some (.int .i64 0) := by rw [cell_row hr1]; rfl
      have r3 : wr.cell? ⟨w.heap.size, 3, none⟩ = some (.int .i64 0) := by rw [cell_row hr1]; rfl
      have q0 := frozen_of_row wr (w.heap.size) 0 _ _ hr1
      have q1 := frozen_of_row wr (w.heap.size) 1 _ _ hr1
      have q2 := frozen_of_row wr (w.heap.size) 2 _ _ hr1
      have q3 := frozen_of_row wr (w.heap.size) 3 _ _ hr1
      have hne := rdq_ne HRQ.out hr1
      have HNE := Lib.hid hne
      have HL := Lib.hid hL
      clear hv hr1 hne hL zv z2 hmo hk
      go_wp2
      refine bodyPost_ret (v := .agg #[.slice A L.length c, .int .i64 most, .int .i64 200, .int .i64 200]) (by simp [*, results, Try.results13, go_sem] <;> rfl) rfl ?_
      rw [HL.out]
      refine ⟨A, c, most, rfl, ?_, ?_⟩
      · refine HRQ.out.turn (S := fun b => b = w.heap.size) ?_ (fun g off e hn => HNE.out g off e hn)
        exact frm_set (frm_set (frm_set (frm_set (Frm.refl _ _) rfl) rfl) rfl) rfl
      · exact hB.trans (((((Below.refl _ _).setCell (by simp) _).setCell (by simp) _).setCell (by simp) _).setCell (by simp) _)

end Go.Proofs.Ytnmjofccedjkkaa
