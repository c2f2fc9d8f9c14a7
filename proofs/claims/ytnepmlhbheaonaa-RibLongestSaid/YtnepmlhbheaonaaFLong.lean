/-
  RibLongest: for every input the call returns true, and each argument reads afterwards as it read before. No condition.
-/
import Derived.Test.YtnepmlhbheaonaaF1
namespace Go.Proofs.Ytnepmlhbheaonaa
open Go.RowKit Go.Maps
set_option maxRecDepth 100000

theorem pof_128' (a : Ad) : pof a 128 = pof a (wid a.v6) := by
  have h : clamp a.v6 128 = clamp a.v6 (wid a.v6) := by
    unfold clamp wid
    cases a.v6 <;> decide
  unfold pof
  rw [h]
/-- What governs all digits of an address is its longest. -/
theorem gov_full {L : List Pr} (h : Srt L) (a : Ad) : govL L (pof a 128) = longL L a := by
  unfold govL longL
  rw [pof_128']
  have e : L.filter (fun x => pcov x.p (pof a (wid a.v6))) = L.filter (fun x => pcon x.p a) := List.filter_congr fun x hx => cov_full (h.1 x hx) a
  rw [e]
/-- Where none lies inside what covers a prefix is what contains its first address. -/
theorem gov_first {L : List Pr} {p : Pf} (hp : psane p = true) (hi : (L.any fun x => pins p x.p) = false) : govL L p = longL L p.a := by
  unfold govL longL
  have e : L.filter (fun x => pcov x.p p) = L.filter (fun x => pcon x.p p.a) := List.filter_congr fun x hx => by
    have hin : pins p x.p = false := by
      cases hc : pins p x.p
      · rfl
      · have : (L.any fun x => pins p x.p) = true := List.any_eq_true.2 ⟨x, hx, hc⟩
        rw [hi] at this
        cases this
    rw [Bool.eq_iff_iff]
    constructor
    · exact pcov_con
    · intro hc
      obtain ⟨c1, c2, c3⟩ := (pcon_iff _ _).1 hc
      rcases Int.lt_or_le p.n x.p.n with e | e
      · exfalso
        have hcv : pcov p x.p = true := (pcov_iff _ _).2 ⟨hp, c1, by omega, c2, fun j hj => (c3 j (by omega)).symm⟩
        rw [ins_eq hcv] at hin
        have : pfEq p x.p = true := by cases hq : pfEq p x.p <;> simp_all
        have := (pfEq_iff _ _).1 this
        rw [← this] at e
        omega
      · exact (pcov_iff _ _).2 ⟨c1, hp, e, c2.symm, fun j hj => c3 j hj⟩
  rw [e]
theorem con_lt' {x y : Pf} {a : Ad} (hx : pcon x a = true) (hy : pcon y a = true) (h : pcmp x y < 0) : x.n < y.n := by
  obtain ⟨x1, x2, x3⟩ := (pcon_iff x a).1 hx
  obtain ⟨y1, y2, y3⟩ := (pcon_iff y a).1 hy
  rcases Int.lt_or_le x.n y.n with e | e
  · exact e
  · have hc : pcov y x = true := (pcov_iff y x).2 ⟨y1, x1, e, by rw [← y2, x2], fun j hj => by rw [← x3 j (by omega), y3 j hj]⟩
    have h1 := cov_cmp hc
    have h2 := pcmp_anti x y
    omega
/-- None that contains an address is longer than the longest; which is one of them. -/
theorem long_most {L : List Pr} (h : Srt L) {a : Ad} {x : Pr} (hx : x ∈ L) (hc : pcon x.p a = true) : ∃ y, longL L a = some y ∧ x.p.n ≤ y.p.n := by
  unfold longL
  have hm : x ∈ L.filter fun x => pcon x.p a := List.mem_filter.2 ⟨hx, hc⟩
  have hs := filter_srt h (fun x => pcon x.p a)
  obtain ⟨i, hi, rfl⟩ := List.getElem_of_mem hm
  generalize hF : (L.filter fun x => pcon x.p a) = F at hi hs hm ⊢
  have hne : F ≠ [] := fun e => by rw [e] at hi; cases hi
  refine ⟨F.getLast hne, List.getLast?_eq_some_getLast hne, ?_⟩
  rw [List.getLast_eq_getElem]
  rcases Nat.lt_or_ge i (F.length - 1) with e | e
  · have h1 := List.pairwise_iff_getElem.1 hs.2 i (F.length - 1) hi (by omega) e
    have k2 : pcon F[F.length - 1].p a = true := by
      have : F[F.length - 1] ∈ (L.filter fun x => pcon x.p a) := by rw [hF]; exact List.getElem_mem _
      exact (List.mem_filter.1 this).2
    exact Int.le_of_lt (con_lt' hc k2 h1)
  · have : i = F.length - 1 := by omega
    subst this
    exact Int.le_refl _
theorem long_mem {L : List Pr} {a : Ad} {y : Pr} (h : longL L a = some y) : y ∈ L ∧ pcon y.p a = true := by
  unfold longL at h
  have := List.mem_of_getLast? h
  exact List.mem_filter.1 this
/-- Whether one of the first k contains an address and is y. -/
def fndK (L : List Pr) (a : Ad) (y : Pr) (k : Nat) : Bool := (L.take k).any fun x => pcon x.p a && decide (x = y)
theorem fndK_succ (L : List Pr) (a : Ad) (y : Pr) {k : Nat} (h : k < L.length) : fndK L a y (k + 1) = (fndK L a y k || (pcon L[k].p a && decide (L[k] = y))) := by
  unfold fndK
  rw [List.take_succ_eq_append_getElem h, List.any_append]
  simp
theorem fnd_all {L : List Pr} {a : Ad} : fndK L a ((longL L a).getD nilPr) L.length = (longL L a).isSome := by
  unfold fndK
  rw [List.take_length]
  cases hl : longL L a with
  | none =>
    simp only [Option.isSome_none]
    rw [List.any_eq_false]
    intro x hx hc
    simp only [Bool.and_eq_true] at hc
    unfold longL at hl
    rw [List.getLast?_eq_none_iff] at hl
    have : x ∈ L.filter fun x => pcon x.p a := List.mem_filter.2 ⟨hx, hc.1⟩
    rw [hl] at this
    cases this
  | some y =>
    obtain ⟨h1, h2⟩ := long_mem hl
    simp only [Option.isSome_some, Option.getD_some]
    exact List.any_eq_true.2 ⟨y, h1, by simp [h2]⟩

def prB (h l : Int) (v : Bool) (n o : Int) (h' l' : Int) (v' : Bool) (n' o' : Int) : Bool := pfB h l v n h' l' v' n' && o == o'
@[simp] theorem prB_self (h l : Int) (v : Bool) (n o : Int) : prB h l v n o h l v n o = true := by simp [prB]
@[simp] theorem eq_pr (h l h' l' : Int) (v v' : Bool) (n n' o o' : Int) (w : World) :
    (Op.equalIn 10000 37 (.agg #[.int .u64 h, .int .u64 l, .bool v, .int .i64 n, .int .i64 o]) (.agg #[.int .u64 h', .int .u64 l', .bool v', .int .i64 n', .int .i64 o'])).run Try.prog w = .ok (prB h l v n o h' l' v' n' o') w := by
  rw [show (10000 : Nat) = 9999 + 1 from rfl, run_equalIn_struct w 9999 _ _ _ (by kernel_rfl) Try.stoodInHeld37]
  simp [go_sem, prB, pfB, adB]
  by_cases h1 : h = h' <;> by_cases h2 : l = l' <;> by_cases h3 : v = v' <;> by_cases h4 : n = n' <;> by_cases h5 : o = o' <;> simp [h1, h2, h3, h4, h5]
theorem prB_iff (x y : Pr) : prB (u x.p.a.hi) (u x.p.a.lo) x.p.a.v6 x.p.n x.v (u y.p.a.hi) (u y.p.a.lo) y.p.a.v6 y.p.n y.v = decide (x = y) := by
  obtain ⟨p, n⟩ := x
  obtain ⟨q, m⟩ := y
  have h := pfEq_iff p q
  unfold pfEq at h
  rw [Bool.eq_iff_iff, decide_eq_true_iff]
  unfold prB
  rw [Bool.and_eq_true, beq_iff_eq, h]
  simp

end Go.Proofs.Ytnepmlhbheaonaa

namespace Go.Proofs.Ytnepmlhbheaonaa
open Go.RowKit Go.Maps
set_option maxRecDepth 100000

set_option maxHeartbeats 8000000 in
theorem riblong_law (A : Option Addr) (cap : Nat) (ls : List Ac) (a : Ad) (p : Pf) (w : World) (hr : RdA w A ls) :
    Calls Try.prog 6 #[.slice A ls.length cap, .agg #[.int .u64 (u a.hi), .int .u64 (u a.lo), .bool a.v6], .agg #[.int .u64 (u p.a.hi), .int .u64 (u p.a.lo), .bool p.a.v6, .int .i64 p.n]] w fun e w' => e = .returned (.bool true) ∧ Below w.heap.size w w' := by
  have HRD := Lib.hid hr
  clear hr
  by_cases hlen : 60 < ls.length
  · have t0 : decide ((60 : Int) < (ls.length : Int)) = true := by simp; omega
    go_enter Try.func6, Try.ntmps6
    go_wp2_with fail
    refine (awake6_any _).mono ?_
    rintro e w1 ⟨rfl, hw1⟩
    have b1 : Below w.heap.size w w1 := below_of (by go_grown) hw1
    go_wp2
    go_ret
    exact ⟨rfl, b1⟩
  · have t0 : decide ((60 : Int) < (ls.length : Int)) = false := by simp; omega
    go_enter Try.func6, Try.ntmps6
    go_wp2_with fail
    refine (awake6_any _).mono ?_
    rintro e w1 ⟨rfl, hw1⟩
    have b1 : Below w.heap.size w w1 := below_of (by go_grown) hw1
    have hA1 : ABox w1 w.heap.size a := ABox.keep ⟨by go_simp <;> rfl, by go_simp <;> rfl, by go_simp <;> rfl, by go_size⟩ hw1
    have hP1 : PBox w1 (w.heap.size + 1) p := PBox.keep (by exact ⟨by go_simp <;> rfl, by go_simp <;> rfl, by go_simp <;> rfl, by go_simp <;> rfl, by go_simp <;> rfl, by go_simp <;> rfl, by go_simp <;> rfl, by go_simp <;> rfl, by go_size⟩) hw1
    have HA1 := Lib.hid hA1
    have HP1 := Lib.hid hP1
    have z1 : w.heap.size + 1 < w1.heap.size := hP1.2.2.2.2.2.2.2.2
    clear hw1 hA1 hP1
    go_wp2_with fail
    refine (rib_new 99 99 _).mono ?_
    rintro e w3 ⟨r, S3, rfl, hT3, hb3, hS3⟩
    have HA3 := Lib.hid (HA1.out.keep hb3)
    have HP3 := Lib.hid (HP1.out.keep hb3)
    have b3 : Below w.heap.size w w3 := b1.trans (hb3.mono b1.size)
    have n3 : ∀ b, S3 b → w.heap.size + 1 + 1 ≤ b := fun b hb => by have := hS3 b hb; omega
    generalize clampN _ = n' at hT3
    generalize clampH _ = h' at hT3
    have z3 : w.heap.size + 1 + 1 ≤ w3.heap.size := by have := hb3.size; omega
    have HR3 := Lib.hid hT3
    have HN3 := Lib.hid n3
    clear hT3 n3 hS3 hb3 HA1 HP1 b1
    go_wp2_with fail
    go_loopw [9] (fun i wr => RPlayRel w (w.heap.size + 1 + 1) r n' h' ls (fun W => ABox W w.heap.size a ∧ PBox W (w.heap.size + 1) p) i wr) (fun i _ => ls.length - (intOf i).toNat)
    case atStart => exact ⟨0, S3, Nat.zero_le _, rfl, HR3.out, Nat.le_refl _, HN3.out, b3, z3, HA3.out, HP3.out⟩
    case round =>
      obtain ⟨k, S, hk, rfl, hR, hm, hN, hB, hz, hA, hP⟩ := hrel
      have HR6 := Lib.hid hR
      have HN := Lib.hid hN
      have HA := Lib.hid hA
      have HP := Lib.hid hP
      clear hR hN hA hP HR3 HN3 HA3 HP3
      have HR := HRD
      by_cases hlt : k < ls.length
      · obtain ⟨g, off, rfl, hg, hc⟩ := HR.out (by intro e; rw [e] at hlt; cases hlt)
        obtain ⟨c0, c1, c2, c3, c4, c5⟩ := hc k hlt
        have d0 := (hB.cell (p := ⟨g, off + k * 6, none⟩) hg).trans c0
        have d1 := (hB.cell (p := ⟨g, off + k * 6 + 1, none⟩) hg).trans c1
        have d2 := (hB.cell (p := ⟨g, off + k * 6 + 2, none⟩) hg).trans c2
        have d3 := (hB.cell (p := ⟨g, off + k * 6 + 3, none⟩) hg).trans c3
        have d4 := (hB.cell (p := ⟨g, off + k * 6 + 4, none⟩) hg).trans c4
        have d5 := (hB.cell (p := ⟨g, off + k * 6 + 5, none⟩) hg).trans c5
        clear c0 c1 c2 c3 c4 c5 hc
        obtain ⟨x, hx⟩ : ∃ x, ls[k] = x := ⟨_, rfl⟩
        rw [hx] at d0 d1 d2 d3 d4 d5
        have HXX := Lib.hid hx
        clear hx
        go_wp2_with fail
        refine (rdo_any HR6.out (by omega) x).mono ?_
        rintro e w6 ⟨⟨rfl, S6, g1, g2, g3⟩, g4⟩
        rw [← HXX.out] at g1 g4
        obtain ⟨r1, r2, r3, r4, r5, r6⟩ := rplay_next hlt HN.out hz (by omega) hB g1 g2 g3 g4 hm
        have hQ1 := HA.out.frm g2 (fun e => by have := HN.out _ e; omega)
        have hQ2 := HP.out.frm g2 (fun e => by have := HN.out _ e; omega)
        have R1 := Lib.hid r1
        have R3 := Lib.hid r3
        clear g1 g2 g3 g4 r1 r3 r6 d0 d1 d2 d3 d4 d5
        go_wp2
        go_roundw
        case rel => exact ⟨k + 1, S6, by omega, by go_num, R1.out, r2, R3.out, r4, r5, hQ1, hQ2⟩
        case measure => simp [intOf]; omega
      · have t1 : decide (k < ls.length) = false := by simp; omega
        have hM : (rplayK n' h' ls k).2 ≤ 20000 := by omega
        generalize (rplayK n' h' ls k).1 = L at HR6
        generalize (rplayK n' h' ls k).2 = M at HR6 hM
        have hs := HR6.out.srt
        have hI := HR6.out.inv
        have hll : L.length ≤ 4096 := by have := hI.few; have := hI.n0; omega
        have HS := Lib.hid hs
        clear hs hI hm HR HRD b3 t0 HN
        go_wp2_with fail
        refine (rib_dump HR6.out).mono ?_
        rintro e w4 ⟨v4, rfl, ho4, hw4⟩
        have b4 := hB.trans (hw4.mono (by omega))
        have HR4 := Lib.hid (HR6.out.keep hw4)
        have HA4 := Lib.hid (HA.out.keep hw4)
        have HP4 := Lib.hid (HP.out.keep hw4)
        have HO4 := Lib.hid ho4
        obtain ⟨A4, c4, rfl, -⟩ := own_val ho4
        clear ho4 hw4 HR6 HA HP hB
        obtain ⟨pa, pb, pc, pz⟩ := id HA4.out
        have hmost := fun (x : Pr) (h1 : x ∈ L) (h2 : pcon x.p a = true) => long_most HS.out h1 h2
        have hfall := @fnd_all L a
        have hgf := gov_full HS.out a
        have cl := fun W (H : RibS W r S n' h' L M) => rib_longest H a
        obtain ⟨o, ho⟩ : ∃ o, longL L a = o := ⟨_, rfl⟩
        rw [ho] at hmost hfall hgf cl
        obtain ⟨y, hy⟩ : ∃ y, o.getD nilPr = y := ⟨_, rfl⟩
        unfold OptPost at cl
        rw [hy] at cl hfall
        have CL := Lib.hid cl
        have HMOST := Lib.hid hmost
        have HFALL := Lib.hid hfall
        have HGF := Lib.hid hgf
        have HY := Lib.hid hy
        clear hmost hfall hgf cl ho hy
        go_wp2_with fail
        refine (CL.out _ HR4.out).mono ?_
        rintro e w5 ⟨rfl, hw5⟩
        have b5 := b4.trans (hw5.mono b4.size)
        have HR5 := Lib.hid (HR4.out.keep hw5)
        have HA5 := Lib.hid (HA4.out.keep hw5)
        have HP5 := Lib.hid (HP4.out.keep hw5)
        have HO5 := Lib.hid (own_fresh HO4.out hw5)
        clear hw5 HR4 HA4 HP4 HO4 pa pb pc pz
        go_upto_region 13 with fail
        have hBs : Below w5.heap.size w5 (w5.alloc (.cells #[.int .u64 (u y.p.a.hi), .int .u64 (u y.p.a.lo), .bool y.p.a.v6, .int .i64 y.p.n, .int .i64 y.v] 37)) := by go_grown
        have hQs : QBox (w5.alloc (.cells #[.int .u64 (u y.p.a.hi), .int .u64 (u y.p.a.lo), .bool y.p.a.v6, .int .i64 y.p.n, .int .i64 y.v] 37)) w5.heap.size y := by
          refine ⟨?_, ?_, ?_, ?_, ?_, ?_⟩
          all_goals first | (go_simp; done) | (go_simp <;> rfl) | go_size
        generalize hWS : World.alloc w5 _ = ws at hBs hQs ⊢
        have bS := b5.trans (hBs.mono b5.size)
        have HRS := Lib.hid (HR5.out.keep hBs)
        have HAS := Lib.hid (HA5.out.keep hBs)
        have HPS := Lib.hid (HP5.out.keep hBs)
        have HOS := Lib.hid (own_fresh HO5.out hBs)
        have HQS := Lib.hid hQs
        clear hWS hBs hQs HR5 HA5 HP5 HO5
        go_loopw [13, 14] (fun f i wr => ∃ j : Nat, j ≤ L.length ∧ i = .int .i64 j ∧ f = .bool (fndK L a y j) ∧ Below ws.heap.size ws wr) (fun _ i _ => L.length - (intOf i).toNat)
        case atStart => exact ⟨0, Nat.zero_le _, rfl, rfl, Below.refl _ _⟩
        case round =>
          obtain ⟨j, hj, rfl, rfl, hBj⟩ := hrel
          by_cases hjl : j < L.length
          · have hfs := fndK_succ L a y hjl
            have hmj := HMOST.out L[j] (List.getElem_mem hjl)
            have j9 : (j : Int) + 1 ≤ 200000 := by omega
            have j1 : (j : Int) < (L.length : Int) := by omega
            obtain ⟨qa, qb, qc, qz⟩ := id (HAS.out.keep hBj)
            obtain ⟨g, cg, eg, -, zg, hcc⟩ := row_cell (own_fresh HOS.out hBj) rfl hjl
            simp only [Value.slice.injEq, true_and] at eg
            obtain ⟨rfl, rfl⟩ := eg
            have m0 : wr.cell? ⟨g, j * 5, none⟩ = some (.int .u64 (u L[j].p.a.hi)) := hcc 0 (by omega)
            have m1 : wr.cell? ⟨g, j * 5 + 1, none⟩ = some (.int .u64 (u L[j].p.a.lo)) := hcc 1 (by omega)
            have m2 : wr.cell? ⟨g, j * 5 + 2, none⟩ = some (.bool L[j].p.a.v6) := hcc 2 (by omega)
            have m3 : wr.cell? ⟨g, j * 5 + 3, none⟩ = some (.int .i64 L[j].p.n) := hcc 3 (by omega)
            have m4 : wr.cell? ⟨g, j * 5 + 4, none⟩ = some (.int .i64 L[j].v) := hcc 4 (by omega)
            obtain ⟨x0, hx0⟩ : ∃ x0, L[j] = x0 := ⟨_, rfl⟩
            rw [hx0] at m0 m1 m2 m3 m4 hfs hmj
            have HFS := Lib.hid hfs
            have HMJ := Lib.hid hmj
            clear hcc hx0 hfs hmj
            obtain ⟨W, rfl⟩ : ∃ W, W = wr := ⟨_, rfl⟩
            have Lm0 := fun x : Later W.heap.size W => (x.cell (p := ⟨g, j * 5, none⟩) zg).trans m0
            have Lm1 := fun x : Later W.heap.size W => (x.cell (p := ⟨g, j * 5 + 1, none⟩) zg).trans m1
            have Lm2 := fun x : Later W.heap.size W => (x.cell (p := ⟨g, j * 5 + 2, none⟩) zg).trans m2
            have Lm3 := fun x : Later W.heap.size W => (x.cell (p := ⟨g, j * 5 + 3, none⟩) zg).trans m3
            have Lm4 := fun x : Later W.heap.size W => (x.cell (p := ⟨g, j * 5 + 4, none⟩) zg).trans m4
            have La := fun x : Later W.heap.size W => (x.cell qz).trans qa
            have Lb := fun x : Later W.heap.size W => (x.cell qz).trans qb
            have Lc := fun x : Later W.heap.size W => (x.cell qz).trans qc
            go_wp2_with fail
            refine region_later W.heap.size (by kernel_rfl) (by kernel_rfl) ?_
            repeat (go_big_quiet_step ((go_at_call 28; exact later_of (Nat.le_refl _) (pcon_any x0.p a _))))
            refine wpQuiet_nil ?_
            intro x
            have hx := x.below
            generalize x.at = V at hx ⊢
            clear x Lm0 Lm1 Lm2 Lm3 Lm4 La Lb Lc
            have bV := hBj.trans (hx.mono hBj.size)
            cases hc : pcon x0.p a
            · have HC' : Hid (fndK L a y (j + 1) = fndK L a y j) := by rw [HFS.out, hc]; exact Lib.hid (by simp)
              clear hc HFS HMJ m0 m1 m2 m3 m4
              go_wp2
              go_roundw
              case rel => exact ⟨j + 1, by omega, by go_num, by rw [HC'.out], bV⟩
              case measure => simp [intOf]; omega
            · have HC' : Hid (fndK L a y (j + 1) = (fndK L a y j || decide (x0 = y))) := by rw [HFS.out, hc]; exact Lib.hid (by simp)
              obtain ⟨y', hy', hle⟩ := HMJ.out hc
              have hyy : y = y' := by rw [← HY.out, hy']; rfl
              subst hyy
              subst hy'
              have tn : decide (y.p.n < x0.p.n) = false := decide_eq_false (by omega)
              have hpb := prB_iff x0 y
              have HPB := Lib.hid hpb
              clear hpb
              replace m0 := (hx.cell (p := ⟨g, j * 5, none⟩) zg).trans m0
              replace m1 := (hx.cell (p := ⟨g, j * 5 + 1, none⟩) zg).trans m1
              replace m2 := (hx.cell (p := ⟨g, j * 5 + 2, none⟩) zg).trans m2
              replace m3 := (hx.cell (p := ⟨g, j * 5 + 3, none⟩) zg).trans m3
              replace m4 := (hx.cell (p := ⟨g, j * 5 + 4, none⟩) zg).trans m4
              have zg' : g < V.heap.size := Nat.lt_of_lt_of_le zg hx.size
              obtain ⟨k0, k1, k2, k3, k4, kz⟩ := id (HQS.out.keep bV)
              clear hx zg HMJ HFS hle
              obtain ⟨fj, hfj⟩ : ∃ fj, fndK L a y j = fj := ⟨_, rfl⟩
              obtain ⟨pj, hpj⟩ : ∃ pj, decide (x0 = y) = pj := ⟨_, rfl⟩
              have tp := HPB.out.trans hpj
              rw [hfj, hpj] at HC'
              rw [hfj]
              clear hfj hpj HPB hc
              cases fj
              · obtain ⟨W, rfl⟩ : ∃ W, W = V := ⟨_, rfl⟩
                have Lm0 := fun x : Later W.heap.size W => (x.cell (p := ⟨g, j * 5, none⟩) zg').trans m0
                have Lm1 := fun x : Later W.heap.size W => (x.cell (p := ⟨g, j * 5 + 1, none⟩) zg').trans m1
                have Lm2 := fun x : Later W.heap.size W => (x.cell (p := ⟨g, j * 5 + 2, none⟩) zg').trans m2
                have Lm3 := fun x : Later W.heap.size W => (x.cell (p := ⟨g, j * 5 + 3, none⟩) zg').trans m3
                have Lm4 := fun x : Later W.heap.size W => (x.cell (p := ⟨g, j * 5 + 4, none⟩) zg').trans m4
                have Lk0 := fun x : Later W.heap.size W => (x.cell kz).trans k0
                have Lk1 := fun x : Later W.heap.size W => (x.cell kz).trans k1
                have Lk2 := fun x : Later W.heap.size W => (x.cell kz).trans k2
                have Lk3 := fun x : Later W.heap.size W => (x.cell kz).trans k3
                have Lk4 := fun x : Later W.heap.size W => (x.cell kz).trans k4
                go_wp2_with fail
                refine region_later W.heap.size (by kernel_rfl) (by kernel_rfl) ?_
                repeat (go_big_quiet_step (fail))
                refine wpQuiet_nil ?_
                intro x
                have hx := x.below
                generalize x.at = V2 at hx ⊢
                clear x Lm0 Lm1 Lm2 Lm3 Lm4 Lk0 Lk1 Lk2 Lk3 Lk4
                have bV2 := bV.trans (hx.mono bV.size)
                have q3 := (hx.cell (p := ⟨g, j * 5 + 3, none⟩) zg').trans m3
                have r3 := (hx.cell kz).trans k3
                have zg2 : g < V2.heap.size := Nat.lt_of_lt_of_le zg' hx.size
                have kz2 : w5.heap.size < V2.heap.size := Nat.lt_of_lt_of_le kz hx.size
                clear hx m0 m1 m2 m3 m4 k0 k1 k2 k3 k4 kz zg' bV
                obtain ⟨W, rfl⟩ : ∃ W, W = V2 := ⟨_, rfl⟩
                have Lq3 := fun x : Later W.heap.size W => (x.cell (p := ⟨g, j * 5 + 3, none⟩) zg2).trans q3
                have Lr3 := fun x : Later W.heap.size W => (x.cell kz2).trans r3
                go_wp2_with fail
                refine region_later W.heap.size (by kernel_rfl) (by kernel_rfl) ?_
                repeat (go_big_quiet_step (fail))
                refine wpQuiet_nil ?_
                intro x
                have hx := x.below
                generalize x.at = V3 at hx ⊢
                clear x Lq3 Lr3
                have bV3 := bV2.trans (hx.mono bV2.size)
                clear hx
                go_wp2
                go_roundw
                case rel => exact ⟨j + 1, by omega, by go_num, by rw [HC'.out]; exact (by simp), bV3⟩
                case measure => simp [intOf]; omega
              · obtain ⟨W, rfl⟩ : ∃ W, W = V := ⟨_, rfl⟩
                have Lm0 := fun x : Later W.heap.size W => (x.cell (p := ⟨g, j * 5, none⟩) zg').trans m0
                have Lm1 := fun x : Later W.heap.size W => (x.cell (p := ⟨g, j * 5 + 1, none⟩) zg').trans m1
                have Lm2 := fun x : Later W.heap.size W => (x.cell (p := ⟨g, j * 5 + 2, none⟩) zg').trans m2
                have Lm3 := fun x : Later W.heap.size W => (x.cell (p := ⟨g, j * 5 + 3, none⟩) zg').trans m3
                have Lm4 := fun x : Later W.heap.size W => (x.cell (p := ⟨g, j * 5 + 4, none⟩) zg').trans m4
                have Lk0 := fun x : Later W.heap.size W => (x.cell kz).trans k0
                have Lk1 := fun x : Later W.heap.size W => (x.cell kz).trans k1
                have Lk2 := fun x : Later W.heap.size W => (x.cell kz).trans k2
                have Lk3 := fun x : Later W.heap.size W => (x.cell kz).trans k3
                have Lk4 := fun x : Later W.heap.size W => (x.cell kz).trans k4
                go_wp2_with fail
                refine region_later W.heap.size (by kernel_rfl) (by kernel_rfl) ?_
                repeat (go_big_quiet_step (fail))
                refine wpQuiet_nil ?_
                intro x
                have hx := x.below
                generalize x.at = V2 at hx ⊢
                clear x Lm0 Lm1 Lm2 Lm3 Lm4 Lk0 Lk1 Lk2 Lk3 Lk4
                have bV2 := bV.trans (hx.mono bV.size)
                have q3 := (hx.cell (p := ⟨g, j * 5 + 3, none⟩) zg').trans m3
                have r3 := (hx.cell kz).trans k3
                have zg2 : g < V2.heap.size := Nat.lt_of_lt_of_le zg' hx.size
                have kz2 : w5.heap.size < V2.heap.size := Nat.lt_of_lt_of_le kz hx.size
                clear hx m0 m1 m2 m3 m4 k0 k1 k2 k3 k4 kz zg' bV
                obtain ⟨W, rfl⟩ : ∃ W, W = V2 := ⟨_, rfl⟩
                have Lq3 := fun x : Later W.heap.size W => (x.cell (p := ⟨g, j * 5 + 3, none⟩) zg2).trans q3
                have Lr3 := fun x : Later W.heap.size W => (x.cell kz2).trans r3
                go_wp2_with fail
                refine region_later W.heap.size (by kernel_rfl) (by kernel_rfl) ?_
                repeat (go_big_quiet_step (fail))
                refine wpQuiet_nil ?_
                intro x
                have hx := x.below
                generalize x.at = V3 at hx ⊢
                clear x Lq3 Lr3
                have bV3 := bV2.trans (hx.mono bV2.size)
                clear hx
                go_wp2
                go_roundw
                case rel => exact ⟨j + 1, by omega, by go_num, by rw [HC'.out]; exact rfl, bV3⟩
                case measure => simp [intOf]; omega
          · obtain rfl : j = L.length := by omega
            have tj : decide ((L.length : Int) < (L.length : Int)) = false := by simp
            rw [HFALL.out]
            obtain ⟨w6, rfl⟩ : ∃ w6, w6 = wr := ⟨_, rfl⟩
            have b6 := bS.trans (hBj.mono bS.size)
            have HR6 := Lib.hid (HRS.out.keep hBj)
            have HA6 := Lib.hid (HAS.out.keep hBj)
            have HP6 := Lib.hid (HPS.out.keep hBj)
            have HQ6 := Lib.hid (HQS.out.keep hBj)
            clear hBj HRS HAS HPS HQS HOS HMOST HFALL CL bS
            obtain ⟨pa, pb, pc, pz⟩ := id HA6.out
            go_wp2_with fail
            refine (pof_any a 128 _).mono ?_
            rintro e w7 ⟨rfl, hw7⟩
            have b7 := b6.trans (hw7.mono b6.size)
            have HR7 := Lib.hid (HR6.out.keep hw7)
            have HP7 := Lib.hid (HP6.out.keep hw7)
            have HQ7 := Lib.hid (HQ6.out.keep hw7)
            clear hw7 HR6 HA6 HP6 HQ6 pa pb pc pz
            have cg := rib_governs HR7.out (pof a 128)
            unfold OptPost at cg
            rw [HGF.out, HY.out] at cg
            have CG := Lib.hid cg
            clear cg
            go_wp2_with fail
            refine CG.out.mono ?_
            rintro e w8 ⟨rfl, hw8⟩
            have b8 := b7.trans (hw8.mono b7.size)
            have HR8 := Lib.hid (HR7.out.keep hw8)
            have HP8 := Lib.hid (HP7.out.keep hw8)
            have HQ8 := Lib.hid (HQ7.out.keep hw8)
            clear hw8 HR7 HP7 HQ7 CG
            obtain ⟨pa, pb, pc, pd, -, -, -, -, ppz⟩ := id HP8.out
            have hpn0 : ¬ w.heap.size + 1 = w8.heap.size := by omega
            have cg2 := fun W (H : RibS W r S n' h' L M) => rib_governs H p
            have cl2 := fun W (H : RibS W r S n' h' L M) => rib_longest H p.a
            have hgo := fun hp hi => @gov_first L p hp hi
            have ci := fun W (H : RibS W r S n' h' L M) => rib_inside H p
            unfold OptPost at cg2 cl2
            obtain ⟨G, hG⟩ : ∃ G, govL L p = G := ⟨_, rfl⟩
            obtain ⟨O2, hO2⟩ : ∃ O2, longL L p.a = O2 := ⟨_, rfl⟩
            obtain ⟨I, hI⟩ : ∃ I, (L.any fun x => pins p x.p) = I := ⟨_, rfl⟩
            obtain ⟨zG, hzG⟩ : ∃ z, G.getD nilPr = z := ⟨_, rfl⟩
            obtain ⟨zO, hzO⟩ : ∃ z, O2.getD nilPr = z := ⟨_, rfl⟩
            rw [hG, hzG] at cg2
            rw [hO2, hzO] at cl2
            rw [hG, hO2, hI] at hgo
            rw [hI] at ci
            have CG2 := Lib.hid cg2
            have CL2 := Lib.hid cl2
            have CI := Lib.hid ci
            have HZG := Lib.hid hzG
            have HZO := Lib.hid hzO
            clear cg2 cl2 ci hG hO2 hI hzG hzO
            cases hp : psane p
            · clear hgo
              -- G: what governs p as an option, zG: its value, O2, zO: the longest of p's address
              go_wp2_with fail
              refine (CG2.out _ (HR8.out.keep (by go_grown))).mono ?_
              rintro e w9 ⟨rfl, hw9⟩
              have e9 : Below w8.heap.size w8 w9 := below_of (by go_grown) hw9
              have HY9 : Hid (QBox w9 w8.heap.size y) := Lib.hid (QBox.keep (by refine ⟨?_, ?_, ?_, ?_, ?_, ?_⟩ <;> first | (go_simp; done) | (go_simp <;> rfl) | go_size) hw9)
              have HR9 := Lib.hid (HR8.out.keep e9)
              have HP9 := Lib.hid (HP8.out.keep e9)
              have HQ9 := Lib.hid (HQ8.out.keep e9)
              have b9 := b8.trans (e9.mono b8.size)
              have z9 : w8.heap.size < w9.heap.size := HY9.out.2.2.2.2.2
              clear hw9 e9 HR8 HP8 HQ8 pa pb pc pd ppz
              obtain ⟨pa, pb, pc, pd, -, -, -, -, ppz⟩ := id HP9.out
              have hpn : ¬ w.heap.size + 1 = w9.heap.size := by omega
              go_wp2_with fail
              refine (CL2.out _ (HR9.out.keep (by go_grown))).mono ?_
              rintro e w10 ⟨rfl, hw10⟩
              have e10 : Below w9.heap.size w9 w10 := below_of (by go_grown) hw10
              have HZ10 : Hid (QBox w10 w9.heap.size zG) := Lib.hid (QBox.keep (by refine ⟨?_, ?_, ?_, ?_, ?_, ?_⟩ <;> first | (go_simp; done) | (go_simp <;> rfl) | go_size) hw10)
              have HR10 := Lib.hid (HR9.out.keep e10)
              have HP10 := Lib.hid (HP9.out.keep e10)
              have HQ10 := Lib.hid (HQ9.out.keep e10)
              have HY10 := Lib.hid (HY9.out.keep e10)
              have b10 := b9.trans (e10.mono b9.size)
              have z10 : w9.heap.size < w10.heap.size := HZ10.out.2.2.2.2.2
              clear hw10 e10 HR9 HP9 HQ9 HY9 pa pb pc pd ppz
              obtain ⟨pa, pb, pc, pd, -, -, -, -, ppz⟩ := id HP10.out
              have hpn2 : ¬ w.heap.size + 1 = w10.heap.size := by omega
              go_wp2_with fail
              refine (psane_any p _).mono ?_
              rintro e w11 ⟨rfl, hw11⟩
              have e11 : Below w10.heap.size w10 w11 := below_of (by go_grown) hw11
              have HT11 : Hid (QBox w11 w10.heap.size zO) := Lib.hid (QBox.keep (by refine ⟨?_, ?_, ?_, ?_, ?_, ?_⟩ <;> first | (go_simp; done) | (go_simp <;> rfl) | go_size) hw11)
              have HR11 := Lib.hid (HR10.out.keep e11)
              have HP11 := Lib.hid (HP10.out.keep e11)
              have HQ11 := Lib.hid (HQ10.out.keep e11)
              have HY11 := Lib.hid (HY10.out.keep e11)
              have HZ11 := Lib.hid (HZ10.out.keep e11)
              have b11 := b10.trans (e11.mono b10.size)
              clear hw11 e11 HR10 HP10 HQ10 HY10 HZ10 pa pb pc pd ppz
              obtain ⟨x0, x1, x2, x3, x4, xz⟩ := id HQ11.out
              obtain ⟨y0, y1, y2, y3, y4, yz⟩ := id HY11.out
              have hs' : psane p = false := hp
              go_wp2
              go_ret
              exact ⟨rfl, b11⟩
            · cases I
              · have hgo' := hgo hp rfl
                subst hgo'
                have hzz : zG = zO := by rw [← HZG.out, ← HZO.out]
                subst hzz
                clear hgo
                -- G: what governs p as an option, zG: its value, G, zG: the longest of p's address
                go_wp2_with fail
                refine (CG2.out _ (HR8.out.keep (by go_grown))).mono ?_
                rintro e w9 ⟨rfl, hw9⟩
                have e9 : Below w8.heap.size w8 w9 := below_of (by go_grown) hw9
                have HY9 : Hid (QBox w9 w8.heap.size y) := Lib.hid (QBox.keep (by refine ⟨?_, ?_, ?_, ?_, ?_, ?_⟩ <;> first | (go_simp; done) | (go_simp <;> rfl) | go_size) hw9)
                have HR9 := Lib.hid (HR8.out.keep e9)
                have HP9 := Lib.hid (HP8.out.keep e9)
                have HQ9 := Lib.hid (HQ8.out.keep e9)
                have b9 := b8.trans (e9.mono b8.size)
                have z9 : w8.heap.size < w9.heap.size := HY9.out.2.2.2.2.2
                clear hw9 e9 HR8 HP8 HQ8 pa pb pc pd ppz
                obtain ⟨pa, pb, pc, pd, -, -, -, -, ppz⟩ := id HP9.out
                have hpn : ¬ w.heap.size + 1 = w9.heap.size := by omega
                go_wp2_with fail
                refine (CL2.out _ (HR9.out.keep (by go_grown))).mono ?_
                rintro e w10 ⟨rfl, hw10⟩
                have e10 : Below w9.heap.size w9 w10 := below_of (by go_grown) hw10
                have HZ10 : Hid (QBox w10 w9.heap.size zG) := Lib.hid (QBox.keep (by refine ⟨?_, ?_, ?_, ?_, ?_, ?_⟩ <;> first | (go_simp; done) | (go_simp <;> rfl) | go_size) hw10)
                have HR10 := Lib.hid (HR9.out.keep e10)
                have HP10 := Lib.hid (HP9.out.keep e10)
                have HQ10 := Lib.hid (HQ9.out.keep e10)
                have HY10 := Lib.hid (HY9.out.keep e10)
                have b10 := b9.trans (e10.mono b9.size)
                have z10 : w9.heap.size < w10.heap.size := HZ10.out.2.2.2.2.2
                clear hw10 e10 HR9 HP9 HQ9 HY9 pa pb pc pd ppz
                obtain ⟨pa, pb, pc, pd, -, -, -, -, ppz⟩ := id HP10.out
                have hpn2 : ¬ w.heap.size + 1 = w10.heap.size := by omega
                go_wp2_with fail
                refine (psane_any p _).mono ?_
                rintro e w11 ⟨rfl, hw11⟩
                have e11 : Below w10.heap.size w10 w11 := below_of (by go_grown) hw11
                have HT11 : Hid (QBox w11 w10.heap.size zG) := Lib.hid (QBox.keep (by refine ⟨?_, ?_, ?_, ?_, ?_, ?_⟩ <;> first | (go_simp; done) | (go_simp <;> rfl) | go_size) hw11)
                have HR11 := Lib.hid (HR10.out.keep e11)
                have HP11 := Lib.hid (HP10.out.keep e11)
                have HQ11 := Lib.hid (HQ10.out.keep e11)
                have HY11 := Lib.hid (HY10.out.keep e11)
                have HZ11 := Lib.hid (HZ10.out.keep e11)
                have b11 := b10.trans (e11.mono b10.size)
                clear hw11 e11 HR10 HP10 HQ10 HY10 HZ10 pa pb pc pd ppz
                obtain ⟨pa, pb, pc, pd, -⟩ := id HP11.out
                have hs' : psane p = true := hp
                go_wp2_with fail
                refine (CI.out _ HR11.out).mono ?_
                rintro e w12 ⟨rfl, hw12⟩
                have b12 := b11.trans (hw12.mono b11.size)
                obtain ⟨x0, x1, x2, x3, x4, xz⟩ := id (HQ11.out.keep hw12)
                obtain ⟨y0, y1, y2, y3, y4, yz⟩ := id (HY11.out.keep hw12)
                obtain ⟨s0, s1, s2, s3, s4, sz⟩ := id (HZ11.out.keep hw12)
                obtain ⟨v0, v1, v2, v3, v4, vz⟩ := id (HT11.out.keep hw12)
                clear hw12 pa pb pc pd
                go_wp2
                go_ret
                exact ⟨rfl, b12⟩
              · clear hgo
                -- G: what governs p as an option, zG: its value, O2, zO: the longest of p's address
                go_wp2_with fail
                refine (CG2.out _ (HR8.out.keep (by go_grown))).mono ?_
                rintro e w9 ⟨rfl, hw9⟩
                have e9 : Below w8.heap.size w8 w9 := below_of (by go_grown) hw9
                have HY9 : Hid (QBox w9 w8.heap.size y) := Lib.hid (QBox.keep (by refine ⟨?_, ?_, ?_, ?_, ?_, ?_⟩ <;> first | (go_simp; done) | (go_simp <;> rfl) | go_size) hw9)
                have HR9 := Lib.hid (HR8.out.keep e9)
                have HP9 := Lib.hid (HP8.out.keep e9)
                have HQ9 := Lib.hid (HQ8.out.keep e9)
                have b9 := b8.trans (e9.mono b8.size)
                have z9 : w8.heap.size < w9.heap.size := HY9.out.2.2.2.2.2
                clear hw9 e9 HR8 HP8 HQ8 pa pb pc pd ppz
                obtain ⟨pa, pb, pc, pd, -, -, -, -, ppz⟩ := id HP9.out
                have hpn : ¬ w.heap.size + 1 = w9.heap.size := by omega
                go_wp2_with fail
                refine (CL2.out _ (HR9.out.keep (by go_grown))).mono ?_
                rintro e w10 ⟨rfl, hw10⟩
                have e10 : Below w9.heap.size w9 w10 := below_of (by go_grown) hw10
                have HZ10 : Hid (QBox w10 w9.heap.size zG) := Lib.hid (QBox.keep (by refine ⟨?_, ?_, ?_, ?_, ?_, ?_⟩ <;> first | (go_simp; done) | (go_simp <;> rfl) | go_size) hw10)
                have HR10 := Lib.hid (HR9.out.keep e10)
                have HP10 := Lib.hid (HP9.out.keep e10)
                have HQ10 := Lib.hid (HQ9.out.keep e10)
                have HY10 := Lib.hid (HY9.out.keep e10)
                have b10 := b9.trans (e10.mono b9.size)
                have z10 : w9.heap.size < w10.heap.size := HZ10.out.2.2.2.2.2
                clear hw10 e10 HR9 HP9 HQ9 HY9 pa pb pc pd ppz
                obtain ⟨pa, pb, pc, pd, -, -, -, -, ppz⟩ := id HP10.out
                have hpn2 : ¬ w.heap.size + 1 = w10.heap.size := by omega
                go_wp2_with fail
                refine (psane_any p _).mono ?_
                rintro e w11 ⟨rfl, hw11⟩
                have e11 : Below w10.heap.size w10 w11 := below_of (by go_grown) hw11
                have HT11 : Hid (QBox w11 w10.heap.size zO) := Lib.hid (QBox.keep (by refine ⟨?_, ?_, ?_, ?_, ?_, ?_⟩ <;> first | (go_simp; done) | (go_simp <;> rfl) | go_size) hw11)
                have HR11 := Lib.hid (HR10.out.keep e11)
                have HP11 := Lib.hid (HP10.out.keep e11)
                have HQ11 := Lib.hid (HQ10.out.keep e11)
                have HY11 := Lib.hid (HY10.out.keep e11)
                have HZ11 := Lib.hid (HZ10.out.keep e11)
                have b11 := b10.trans (e11.mono b10.size)
                clear hw11 e11 HR10 HP10 HQ10 HY10 HZ10 pa pb pc pd ppz
                obtain ⟨pa, pb, pc, pd, -⟩ := id HP11.out
                have hs' : psane p = true := hp
                go_wp2_with fail
                refine (CI.out _ HR11.out).mono ?_
                rintro e w12 ⟨rfl, hw12⟩
                have b12 := b11.trans (hw12.mono b11.size)
                obtain ⟨x0, x1, x2, x3, x4, xz⟩ := id (HQ11.out.keep hw12)
                obtain ⟨y0, y1, y2, y3, y4, yz⟩ := id (HY11.out.keep hw12)
                clear hw12 pa pb pc pd
                go_wp2
                go_ret
                exact ⟨rfl, b12⟩

end Go.Proofs.Ytnepmlhbheaonaa

namespace Go.Proofs.Ytnepmlhbheaonaa
open Go.ChangeShapes Go.WideShapes Go.ChangeAt Go.RowKit

set_option maxRecDepth 100000 in
theorem ribLongest_lifted (os : Os) (started : os.Started) (H : Type) (enc : TypeId × Value → H) :
    ReturnsInHanded {} Try.checked os 6 .any (Rows.ribLongestSpec.pre6 enc Try.prog Try.f6 Rows.ribLongestRow.domain false) (Rows.ribLongestSpec.post enc Try.prog Try.f6 false true false false) := by
  refine returnsInHanded_of_change (C := Try.checked) own started (by kernel_rfl) Try.func6
    (ChangeSpec.witness6 (enc := enc) (C := Try.checked) false ⟨#[], #[.slice none 0 0, .agg #[.int .u64 0, .int .u64 0, .bool false], .agg #[.int .u64 0, .int .u64 0, .bool false, .int .i64 0]], []⟩ 8 (by kernel_rfl) (by kernel_rfl) (by kernel_rfl) (by kernel_rfl)) ?_
  intro W base args ds gs before hval0 hW hcnd _
  have hval : ∀ (j : Nat) t v, Try.f6.params[j]? = some t → args[j]? = some v → Value.okWide Try.prog W .any base t v := hval0
  have hW' := hW
  obtain ⟨p, q, hA0, hV, rfl, hfz, hnd⟩ := hW
  have hA : DataW.TrodAll enc Try.prog W 0 (fun _ => true) true Try.f6.params.toList args.toList ds p := hA0
  rw [Try.params6] at hA hval
  obtain ⟨v0, vs0, d0, ds0, p0, q0, hargs, rfl, rfl, h0, r0⟩ := trodAll_cons hA
  obtain ⟨v1, vs1, d1, ds1, p1, q1, rfl, rfl, rfl, h1, r1⟩ := trodAll_cons r0
  obtain ⟨v2, vs2, d2, ds2, p2, q2, rfl, rfl, rfl, h2, r2⟩ := trodAll_cons r1
  obtain ⟨rfl, rfl, rfl⟩ := trodAll_nil r2
  obtain rfl : args = #[v0, v1, v2] := by cases args; simp_all
  obtain ⟨rfl, rfl⟩ := trodVars_none hV
  have lt0 : ∀ x ∈ p0, x.block < W.heap.size := by obtain ⟨m, hm⟩ := h0; exact DataW.trod_lt m _ _ _ hm
  obtain ⟨A0, cap0, l0, rfl, w0⟩ := open_acs6 (hval 0 50 v0 rfl rfl) h0 (fun _ => rfl)
  have lt1 : ∀ x ∈ p1, x.block < W.heap.size := by obtain ⟨m, hm⟩ := h1; exact DataW.trod_lt m _ _ _ hm
  obtain ⟨a1, rfl⟩ := open_ad (hval 1 24 v1 rfl rfl) h1
  have lt2 : ∀ x ∈ p2, x.block < W.heap.size := by obtain ⟨m, hm⟩ := h2; exact DataW.trod_lt m _ _ _ hm
  obtain ⟨a2, rfl, w2⟩ := open_pf (hval 2 26 v2 rfl rfl) h2
  clear hA0 hval0
  refine (riblong_law A0 cap0 l0 a1 a2 W w0).mono fun e W' ⟨he, bel⟩ => ?_
  subst he
  exact ⟨_, rfl, _, _, _, [], _, [], hW', trodAll_mk1 (shut_bool Try.underlying4 _), (trodAll_cons_mk (Below.trod laidOut (by kernel_rfl) (of_decide_eq_true (by kernel_rfl)) h0 bel lt0) (trodAll_cons_mk (Below.trod laidOut (by kernel_rfl) (of_decide_eq_true (by kernel_rfl)) h1 bel lt1) (trodAll_cons_mk (Below.trod laidOut (by kernel_rfl) (of_decide_eq_true (by kernel_rfl)) h2 bel lt2) trodAll_mk0))), rfl, bel.frame _, fun h => by cases h⟩

theorem ribLongest_holds : Rows.RibLongestSaid :=
  OpenClaim.holds_of_wide 6 Try.f6 rfl rfl rfl rfl rfl rfl rfl ⟨rfl, rfl, rfl, rfl, rfl⟩ rfl rfl rfl rfl rfl (by kernel_rfl) Try.func6 (by kernel_rfl)
    (of_decide_eq_true (by kernel_rfl)) (by unfold Func.isWrapper; first | (rw [if_pos (by decide +kernel)]; kernel_rfl) | (rw [if_neg (by decide +kernel)]; exact ⟨rfl, rfl⟩))
    (fun os started H enc _ => ribLongest_lifted os started H enc)

end Go.Proofs.Ytnepmlhbheaonaa
