/-
  What Add of the document's answer for layer 6 returns. Condition: the pairs lie where the argument says, in order.
-/
import Derived.Test.YtcbfppangiopeaaGreatY2
namespace Go.Proofs.YtcbfppangiopeaaGreat
open Go.RowKit Go.Maps
set_option maxRecDepth 100000

/-- One step of what Put goes through: what is there so far, and whether the new one is. -/
def putStep (p : Pf) (v : Int) (s : List Pr × Bool) (x : Pr) : List Pr × Bool :=
  ((if 0 ≤ pcmp x.p p ∧ s.2 = false then s.1 ++ [⟨p, v⟩] else s.1) ++ (if pcmp x.p p = 0 then [] else [x]), s.2 || decide (0 ≤ pcmp x.p p))
def putF (p : Pf) (v : Int) (L : List Pr) (k : Nat) : List Pr × Bool := (L.take k).foldl (putStep p v) ([], false)
theorem putF_succ (p : Pf) (v : Int) (L : List Pr) {k : Nat} (h : k < L.length) : putF p v L (k + 1) = putStep p v (putF p v L k) L[k] := by
  unfold putF
  rw [List.take_succ_eq_append_getElem h, List.foldl_append]
  rfl
theorem putF_len (p : Pf) (v : Int) (L : List Pr) (k : Nat) : (putF p v L k).1.length ≤ 2 * k := by
  induction k with
  | zero => exact Nat.le_refl _
  | succ k ih =>
    by_cases h : k < L.length
    · rw [putF_succ p v L h]
      unfold putStep
      simp only [List.length_append]
      have h1 : (if 0 ≤ pcmp L[k].p p ∧ (putF p v L k).2 = false then (putF p v L k).1 ++ [⟨p, v⟩] else (putF p v L k).1).length ≤ (putF p v L k).1.length + 1 := by split <;> simp
      have h2 : (if pcmp L[k].p p = 0 then [] else [L[k]]).length ≤ 1 := by split <;> simp
      omega
    · have e : putF p v L (k + 1) = putF p v L k := by
        unfold putF
        rw [List.take_of_length_le (by omega), List.take_of_length_le (by omega)]
      rw [e]
      omega
theorem put_rest (p : Pf) (v : Int) : ∀ (l o : List Pr), (∀ y ∈ l, 0 < pcmp y.p p) → l.foldl (putStep p v) (o, true) = (o ++ l, true) := by
  intro l
  induction l with
  | nil => intro o _; simp
  | cons x l ih =>
    intro o h
    have hx := h x (List.mem_cons_self ..)
    rw [List.foldl_cons]
    have e : putStep p v (o, true) x = (o ++ [x], true) := by
      unfold putStep
      simp only [Bool.true_eq_false, and_false, if_false, Bool.true_or]
      rw [if_neg (by omega)]
    rw [e, ih _ (fun y hy => h y (List.mem_cons_of_mem _ hy))]
    simp
theorem put_go {p : Pf} (hp : psane p = true) (v : Int) : ∀ (l o : List Pr), Srt l → (if (l.foldl (putStep p v) (o, false)).2 = true then (l.foldl (putStep p v) (o, false)).1 else (l.foldl (putStep p v) (o, false)).1 ++ [⟨p, v⟩]) = o ++ putL p v l := by
  intro l
  induction l with
  | nil => intro o _; simp [putL]
  | cons x l ih =>
    intro o h
    obtain ⟨h1, h2, h3⟩ := srt_cons.1 h
    rw [List.foldl_cons]
    have bd := pcmp_bd x.p p
    rcases (show pcmp x.p p < 0 ∨ pcmp x.p p = 0 ∨ 0 < pcmp x.p p by omega) with c | c | c
    · have e : putStep p v (o, false) x = (o ++ [x], false) := by
        unfold putStep
        rw [if_neg (by omega), if_neg (by omega)]
        simp
        omega
      rw [e, ih _ h3, putL, if_pos c]
      simp
    · have hxp : x.p = p := (pcmp_eq h1 hp).1 c
      have e : putStep p v (o, false) x = (o ++ [⟨p, v⟩], true) := by
        unfold putStep
        rw [if_pos ⟨by omega, rfl⟩, if_pos c]
        simp
        omega
      have hr : ∀ y ∈ l, 0 < pcmp y.p p := fun y hy => by
        have := h2 y hy
        rw [hxp] at this
        have := pcmp_anti p y.p
        omega
      rw [e, put_rest p v l _ hr, if_pos rfl, putL, if_neg (by omega), if_pos c]
      simp
    · have e : putStep p v (o, false) x = (o ++ [⟨p, v⟩] ++ [x], true) := by
        unfold putStep
        rw [if_pos ⟨by omega, rfl⟩, if_neg (by omega)]
        simp
        omega
      have hr : ∀ y ∈ l, 0 < pcmp y.p p := fun y hy => by
        have g1 := h2 y hy
        have g2 := pcmp_anti x.p p
        have g3 := pcmp_lt_trans hp (h3.1 y hy) (show pcmp p x.p < 0 by omega) g1
        have g4 := pcmp_anti p y.p
        omega
      rw [e, put_rest p v l _ hr, if_pos rfl, putL, if_neg (by omega), if_neg (by omega)]
      simp
theorem putF_all {p : Pf} {L : List Pr} (hp : psane p = true) (h : Srt L) (v : Int) : (if (putF p v L L.length).2 = true then (putF p v L L.length).1 else (putF p v L L.length).1 ++ [⟨p, v⟩]) = putL p v L := by
  have := put_go hp v L [] h
  unfold putF
  rw [List.take_length]
  simpa using this

section
variable {w : World} {A : Option Addr} {c : Nat} {L : List Pr}
set_option maxHeartbeats 2000000 in
theorem kput_no (most : Int) (p : Pf) (v : Int) (hp : psane p = false) : Calls Tryz.prog 48 #[.agg #[.slice A L.length c, .int .i64 most], .agg #[.int .u64 (u p.a.hi), .int .u64 (u p.a.lo), .bool p.a.v6, .int .i64 p.n], .int .i64 v] w fun e w' => e = .returned (.tuple #[.agg #[.slice A L.length c, .int .i64 most], .int .i64 1]) ∧ Below w.heap.size w w' := by
  have cs := rpsane_any p
  rw [hp] at cs
  have CS := Lib.hid cs
  clear cs hp
  go_enter Tryz.func48, Tryz.ntmps48
  go_wp2_with fail
  refine (CS.out _).mono ?_
  rintro e w1 ⟨rfl, hw1⟩
  have b1 : Below w.heap.size w w1 := below_of (by go_grown) hw1
  have hK : KBox w1 w.heap.size A L.length c most := KBox.keep (by refine ⟨?_, ?_, ?_⟩ <;> first | (go_simp; done) | (go_simp <;> rfl) | go_size) hw1
  have h3 : w1.heap[w.heap.size + 1 + 1]? = some (.cells #[.slice none 0 0, .int .i64 0] 33 (0, 0)) := (hw1.block (w.heap.size + 1 + 1) (by go_size)).trans (by repeat (first | (refine hp_new ?_; (simp; done)) | (refine hp_old ?_ ?_; · (first | (simp; done) | (simp; omega)))))
  obtain ⟨t0, t1, tz⟩ := id hK
  have r0 : w1.cell? ⟨w.heap.size + 1 + 1, 0, none⟩ = some (.slice none 0 0) := by rw [cell_row h3]; rfl
  have r1 : w1.cell? ⟨w.heap.size + 1 + 1, 1, none⟩ = some (.int .i64 0) := by rw [cell_row h3]; rfl
  have q0 := frozen_of_row w1 (w.heap.size + 1 + 1) 0 _ _ h3
  have q1 := frozen_of_row w1 (w.heap.size + 1 + 1) 1 _ _ h3
  clear hw1 hK h3
  go_wp2
  refine bodyPost_ret (v := .tuple #[.agg #[.slice A L.length c, .int .i64 most], .int .i64 1]) (by simp [*, results, Tryz.results48, go_sem] <;> rfl) rfl ⟨rfl, ?_⟩
  exact b1.trans (((Below.refl _ _).setCell (by simp; omega) _).setCell (by simp; omega) _)

set_option maxHeartbeats 8000000 in
theorem kput_yes (hr : RdQ w A L) (hs : Srt L) (hl : L.length ≤ 10000) (most : Int) (_ : 0 ≤ most ∧ most ≤ 1000000000) (p : Pf) (v : Int) (hp : psane p = true) : Calls Tryz.prog 48 #[.agg #[.slice A L.length c, .int .i64 most], .agg #[.int .u64 (u p.a.hi), .int .u64 (u p.a.lo), .bool p.a.v6, .int .i64 p.n], .int .i64 v] w fun e w' => ∃ A' c', e = .returned (.tuple #[.agg #[.slice A' (putL p v L).length c', .int .i64 (max most (nodesL (putL p v L)))], .int .i64 0]) ∧ RdQ w' A' (putL p v L) ∧ (∀ g off, A' = some ⟨g, off, none⟩ → putL p v L ≠ [] → w.heap.size ≤ g) ∧ Below w.heap.size w w' := by
  have HRD := Lib.hid hr
  have cs := rpsane_any p
  rw [hp] at cs
  have CS := Lib.hid cs
  have hall := putF_all hp hs v
  have hsp := put_srt (v := v) hs hp
  have hpl := put_len (v := v) hs hp
  have hpl2 : (putL p v L).length ≤ 10001 := by rw [hpl]; split <;> omega
  obtain ⟨Z, hZ⟩ : ∃ Z, putL p v L = Z := ⟨_, rfl⟩
  rw [hZ] at hall hsp hpl2 ⊢
  have HALL := Lib.hid hall
  have HSP := Lib.hid hsp
  clear hr hs hp cs hall hsp hpl hZ
  go_enter Tryz.func48, Tryz.ntmps48
  go_wp2_with fail
  refine (CS.out _).mono ?_
  rintro e w1 ⟨rfl, hw1⟩
  have b1 : Below w.heap.size w w1 := below_of (by go_grown) hw1
  have hK : KBox w1 w.heap.size A L.length c most := KBox.keep (by refine ⟨?_, ?_, ?_⟩ <;> first | (go_simp; done) | (go_simp <;> rfl) | go_size) hw1
  have hP : PBox w1 (w.heap.size + 1) p := PBox.keep (by exact ⟨by go_simp <;> rfl, by go_simp <;> rfl, by go_simp <;> rfl, by go_simp <;> rfl, by go_simp <;> rfl, by go_simp <;> rfl, by go_simp <;> rfl, by go_simp <;> rfl, by go_size⟩) hw1
  have h3 : w1.heap[w.heap.size + 1 + 1]? = some (.cells #[.slice none 0 0, .int .i64 0] 33 (0, 0)) := (hw1.block (w.heap.size + 1 + 1) (by go_size)).trans (by repeat (first | (refine hp_new ?_; (simp; done)) | (refine hp_old ?_ ?_; · (first | (simp; done) | (simp; omega)))))
  have HK := Lib.hid hK
  have HP := Lib.hid hP
  have H3 := Lib.hid h3
  have z3 := lt_of_block h3
  have z1 := b1.size
  clear hw1 hK hP h3 CS
  go_wp2_with fail
  go_loopw [8, 9, 10] (fun o b i wr => ∃ k N : Nat, k ≤ L.length ∧ i = .int .i64 k ∧ N = (putF p v L k).1.length ∧ b = .bool (putF p v L k).2 ∧ wr.ownsRow w1.heap.size 104 5 o N (prv (putF p v L k).1) ∧ Below w1.heap.size w1 wr) (fun _ _ i _ => L.length - (RowKit.intOf i).toNat)
  case atStart => exact ⟨0, 0, Nat.zero_le _, rfl, rfl, rfl, World.ownsRow_nil _ _ _ _, Below.refl _ _⟩
  case round =>
    obtain ⟨k, N, hk, rfl, hN, rfl, hown, hBj⟩ := hrel
    have hB := b1.trans (hBj.mono z1)
    have HO := Lib.hid hown
    have hN9 : N ≤ 20000 := by
      have h1 := putF_len p v L k
      omega
    obtain ⟨A2, c2, rfl, -⟩ := own_val hown
    have zr := hBj.size
    by_cases hlt : k < L.length
    · obtain ⟨t0, t1, tz⟩ := id (HK.out.keep hBj)
      obtain ⟨pa, pb, pc, pg, -, -, -, -, pz⟩ := id (HP.out.keep hBj)
      -- HRD: the fact RdQ at w, L: the list; k, hlt, hB : Below w.heap.size w wr. The cells of the k-th in wr: d0 .. d4
      obtain ⟨g, off, rfl, hg, hc⟩ := HRD.out (by intro e; rw [e] at hlt; cases hlt)
      obtain ⟨c0, c1, c2, c3, c4⟩ := hc k hlt
      have d0 := (hB.cell (p := ⟨g, off + k * 5, none⟩) hg).trans c0
      have d1 := (hB.cell (p := ⟨g, off + k * 5 + 1, none⟩) hg).trans c1
      have d2 := (hB.cell (p := ⟨g, off + k * 5 + 2, none⟩) hg).trans c2
      have d3 := (hB.cell (p := ⟨g, off + k * 5 + 3, none⟩) hg).trans c3
      have d4 := (hB.cell (p := ⟨g, off + k * 5 + 4, none⟩) hg).trans c4
      have gz : g < wr.heap.size := Nat.lt_of_lt_of_le hg hB.size
      clear c0 c1 c2 c3 c4 hc
      have hsc := putF_succ p v L hlt
      obtain ⟨y, hy⟩ : ∃ y, L[k] = y := ⟨_, rfl⟩
      unfold putStep at hsc
      obtain ⟨o, ho⟩ : ∃ o, (putF p v L k).1 = o := ⟨_, rfl⟩
      obtain ⟨bb, hb⟩ : ∃ bb, (putF p v L k).2 = bb := ⟨_, rfl⟩
      rw [hy] at d0 d1 d2 d3 d4 hsc
      rw [ho] at hsc hN HO
      rw [hb] at hsc ⊢
      have hN' : N = o.length := hN
      have HO' : Hid (wr.ownsRow w1.heap.size 104 5 (.slice A2 N c2) N (prv o)) := Lib.hid HO.out
      have bd := pcmp_bd y.p p
      have cc := rpcmp_any y.p p
      obtain ⟨cv, hcv⟩ : ∃ cv, pcmp y.p p = cv := ⟨_, rfl⟩
      rw [hcv] at hsc bd cc
      have HSC := Lib.hid hsc
      have CC := Lib.hid cc
      have HN := Lib.hid hN'
      clear hsc cc hcv hy ho hb hN hN' HO hown HK HP H3 t1
      obtain ⟨W, rfl⟩ : ∃ W, W = wr := ⟨_, rfl⟩
      have Ld0 := fun x : Later W.heap.size W => (x.cell (p := ⟨g, off + k * 5, none⟩) gz).trans d0
      have Ld1 := fun x : Later W.heap.size W => (x.cell (p := ⟨g, off + k * 5 + 1, none⟩) gz).trans d1
      have Ld2 := fun x : Later W.heap.size W => (x.cell (p := ⟨g, off + k * 5 + 2, none⟩) gz).trans d2
      have Ld3 := fun x : Later W.heap.size W => (x.cell (p := ⟨g, off + k * 5 + 3, none⟩) gz).trans d3
      have Ld4 := fun x : Later W.heap.size W => (x.cell (p := ⟨g, off + k * 5 + 4, none⟩) gz).trans d4
      have Lt0 := fun x : Later W.heap.size W => (x.cell tz).trans t0
      have Lpa := fun x : Later W.heap.size W => (x.cell pz).trans pa
      have Lpb := fun x : Later W.heap.size W => (x.cell pz).trans pb
      have Lpc := fun x : Later W.heap.size W => (x.cell pz).trans pc
      have Lpg := fun x : Later W.heap.size W => (x.cell pz).trans pg
      go_wp2_with fail
      refine region_later W.heap.size (by kernel_rfl) (by kernel_rfl) ?_
      repeat (go_big_quiet_step ((go_at_call 77; exact later_of (Nat.le_refl _) (CC.out _))))
      refine wpQuiet_nil ?_
      intro x
      have hx := x.below
      generalize x.at = V at hx ⊢
      clear x Ld0 Ld1 Ld2 Ld3 Ld4 Lt0 Lpa Lpb Lpc Lpg
      have bV := hBj.trans (hx.mono hBj.size)
      have HOV := Lib.hid (own_fresh HO'.out hx)
      have zV := bV.size
      replace d0 := (hx.cell (p := ⟨g, off + k * 5, none⟩) gz).trans d0
      replace d1 := (hx.cell (p := ⟨g, off + k * 5 + 1, none⟩) gz).trans d1
      replace d2 := (hx.cell (p := ⟨g, off + k * 5 + 2, none⟩) gz).trans d2
      replace d3 := (hx.cell (p := ⟨g, off + k * 5 + 3, none⟩) gz).trans d3
      replace d4 := (hx.cell (p := ⟨g, off + k * 5 + 4, none⟩) gz).trans d4
      replace t0 := (hx.cell tz).trans t0
      replace pa := (hx.cell pz).trans pa
      replace pb := (hx.cell pz).trans pb
      replace pc := (hx.cell pz).trans pc
      replace pg := (hx.cell pz).trans pg
      clear hx HO' CC
      rcases (show cv = -1 ∨ cv = 0 ∨ cv = 1 by omega) with hcv | hcv | hcv
      · subst hcv
        clear bd
        obtain ⟨HS1, HS2⟩ : Hid ((putF p v L (k + 1)).1 = o ++ [y]) ∧ Hid ((putF p v L (k + 1)).2 = bb) := ⟨Lib.hid (by rw [HSC.out]; simp), Lib.hid (by rw [HSC.out]; simp)⟩
        clear HSC pa pb pc pg
        go_wp2_with (
          at_builtin
          refine wpList_five1 five_ref rfl (.tmp 46) (.tmp 52) rfl w1.heap.size _ N o HN.out (by rfl) (HOV.out.alloc _) V.heap.size y (by rfl) (heap_alloc_new V _) (by omega) (by simp; omega) ?_
          intro v2 w2 ho2 hb2
          have b2 : Below w1.heap.size w1 w2 := bV.trans (Below.trans (by go_grown) hb2)
          have HO2 := Lib.hid ho2
          obtain ⟨A5, c5, rfl, -⟩ := own_val ho2
          clear ho2 hb2
          try clear d0 d1 d2 d3 d4
          try clear t0
          try clear pa pb pc pg
          try clear zV
          )
        go_roundw
        case rel => exact ⟨k + 1, N + 1, by omega, by go_num, by rw [HS1.out, List.length_append, ← HN.out]; rfl, by rw [HS2.out], by rw [HS1.out]; exact HO2.out, b2⟩
        case measure => simp [RowKit.intOf]; omega
      · subst hcv
        clear bd
        cases bb
        · obtain ⟨HS1, HS2⟩ : Hid ((putF p v L (k + 1)).1 = o ++ [⟨p, v⟩]) ∧ Hid ((putF p v L (k + 1)).2 = true) := ⟨Lib.hid (by rw [HSC.out]; simp), Lib.hid (by rw [HSC.out]; simp)⟩
          clear HSC d0 d1 d2 d3 d4 t0
          go_wp2_with (
            at_builtin
            refine wpList_five1 five_ref rfl (.tmp 38) (.tmp 42) rfl w1.heap.size _ N o HN.out (by rfl) (HOV.out.alloc _) V.heap.size ⟨p, v⟩ (by rfl) (heap_alloc_new V _) (by omega) (by simp; omega) ?_
            intro v2 w2 ho2 hb2
            have b2 : Below w1.heap.size w1 w2 := bV.trans (Below.trans (by go_grown) hb2)
            have HO2 := Lib.hid ho2
            obtain ⟨A5, c5, rfl, -⟩ := own_val ho2
            clear ho2 hb2
            try clear d0 d1 d2 d3 d4
            try clear t0
            try clear pa pb pc pg
            try clear zV
            )
          go_roundw
          case rel => exact ⟨k + 1, N + 1, by omega, by go_num, by rw [HS1.out, List.length_append, ← HN.out]; rfl, by rw [HS2.out], by rw [HS1.out]; exact HO2.out, b2⟩
          case measure => simp [RowKit.intOf]; omega
        · obtain ⟨HS1, HS2⟩ : Hid ((putF p v L (k + 1)).1 = o) ∧ Hid ((putF p v L (k + 1)).2 = true) := ⟨Lib.hid (by rw [HSC.out]; simp), Lib.hid (by rw [HSC.out]; simp)⟩
          clear HSC d0 d1 d2 d3 d4 t0 pa pb pc pg
          go_wp2
          go_roundw
          case rel => exact ⟨k + 1, N, by omega, by go_num, by rw [HS1.out]; exact HN.out, by rw [HS2.out], by rw [HS1.out]; exact HOV.out, bV⟩
          case measure => simp [RowKit.intOf]; omega
      · subst hcv
        clear bd
        cases bb
        · obtain ⟨HS1, HS2⟩ : Hid ((putF p v L (k + 1)).1 = o ++ [⟨p, v⟩] ++ [y]) ∧ Hid ((putF p v L (k + 1)).2 = true) := ⟨Lib.hid (by rw [HSC.out]; simp), Lib.hid (by rw [HSC.out]; simp)⟩
          clear HSC
          go_upto_region 12 with (
            at_builtin
            refine wpList_five1 five_ref rfl (.tmp 38) (.tmp 42) rfl w1.heap.size _ N o HN.out (by rfl) (HOV.out.alloc _) V.heap.size ⟨p, v⟩ (by rfl) (heap_alloc_new V _) (by omega) (by simp; omega) ?_
            intro v2 w2 ho2 hb2
            have hv2 : Below w1.heap.size V w2 := Below.trans (by go_grown) hb2
            have b2 : Below w1.heap.size w1 w2 := bV.trans hv2
            have HO2 := Lib.hid ho2
            obtain ⟨A5, c5, rfl, -⟩ := own_val ho2
            clear ho2 hb2
            )
          replace d0 := (hv2.cell (p := ⟨g, off + k * 5, none⟩) (by show g < _; omega)).trans d0
          replace d1 := (hv2.cell (p := ⟨g, off + k * 5 + 1, none⟩) (by show g < _; omega)).trans d1
          replace d2 := (hv2.cell (p := ⟨g, off + k * 5 + 2, none⟩) (by show g < _; omega)).trans d2
          replace d3 := (hv2.cell (p := ⟨g, off + k * 5 + 3, none⟩) (by show g < _; omega)).trans d3
          replace d4 := (hv2.cell (p := ⟨g, off + k * 5 + 4, none⟩) (by show g < _; omega)).trans d4
          replace t0 := (hv2.cell (p := ⟨w.heap.size, 0, none⟩) (by show w.heap.size < _; omega)).trans t0
          have zw2 := b2.size
          clear hv2 pa pb pc pg HOV
          go_wp2_with (
            at_builtin
            refine wpList_five1 five_ref rfl (.tmp 46) (.tmp 52) rfl w1.heap.size _ (N + 1) (o ++ [⟨p, v⟩]) (by rw [List.length_append, ← HN.out]; rfl) (by rfl) (HO2.out.alloc _) w2.heap.size y (by rfl) (heap_alloc_new w2 _) (by omega) (by simp; omega) ?_
            intro v3 w3 ho3 hb3
            have b3 : Below w1.heap.size w1 w3 := b2.trans (Below.trans (by go_grown) hb3)
            have HO3 := Lib.hid ho3
            obtain ⟨A6, c6, rfl, -⟩ := own_val ho3
            clear ho3 hb3
            try clear d0 d1 d2 d3 d4
            try clear t0
            try clear zw2
            try clear zV
            )
          go_roundw
          case rel => exact ⟨k + 1, N + 1 + 1, by omega, by go_num, by rw [HS1.out, List.length_append, List.length_append, ← HN.out]; rfl, by rw [HS2.out], by rw [HS1.out]; exact HO3.out, b3⟩
          case measure => simp [RowKit.intOf]; omega
        · obtain ⟨HS1, HS2⟩ : Hid ((putF p v L (k + 1)).1 = o ++ [y]) ∧ Hid ((putF p v L (k + 1)).2 = true) := ⟨Lib.hid (by rw [HSC.out]; simp), Lib.hid (by rw [HSC.out]; simp)⟩
          clear HSC pa pb pc pg
          go_wp2_with (
            at_builtin
            refine wpList_five1 five_ref rfl (.tmp 46) (.tmp 52) rfl w1.heap.size _ N o HN.out (by rfl) (HOV.out.alloc _) V.heap.size y (by rfl) (heap_alloc_new V _) (by omega) (by simp; omega) ?_
            intro v2 w2 ho2 hb2
            have b2 : Below w1.heap.size w1 w2 := bV.trans (Below.trans (by go_grown) hb2)
            have HO2 := Lib.hid ho2
            obtain ⟨A5, c5, rfl, -⟩ := own_val ho2
            clear ho2 hb2
            try clear d0 d1 d2 d3 d4
            try clear t0
            try clear pa pb pc pg
            try clear zV
            )
          go_roundw
          case rel => exact ⟨k + 1, N + 1, by omega, by go_num, by rw [HS1.out, List.length_append, ← HN.out]; rfl, by rw [HS2.out], by rw [HS1.out]; exact HO2.out, b2⟩
          case measure => simp [RowKit.intOf]; omega
    · obtain rfl : k = L.length := by omega
      have kt : decide ((L.length : Int) < (L.length : Int)) = false := by simp
      obtain ⟨o, ho⟩ : ∃ o, (putF p v L L.length).1 = o := ⟨_, rfl⟩
      obtain ⟨bb, hb⟩ : ∃ bb, (putF p v L L.length).2 = bb := ⟨_, rfl⟩
      have hal := HALL.out
      rw [ho] at hN hal HO
      rw [hb] at hal ⊢
      have hN' : N = o.length := hN
      have HO' : Hid (wr.ownsRow w1.heap.size 104 5 (.slice A2 N c2) N (prv o)) := Lib.hid HO.out
      have HN := Lib.hid hN'
      obtain ⟨t0, t1, tz⟩ := id (HK.out.keep hBj)
      clear ho hb hN hN' HO hown HALL HRD
      cases bb
      · have hZ : o ++ [⟨p, v⟩] = Z := by simpa using hal
        obtain ⟨pa, pb, pc, pg, -, -, -, -, pz⟩ := id (HP.out.keep hBj)
        have hlen : N + 1 = Z.length := by rw [← hZ, List.length_append, ← HN.out]; rfl
        have HZ := Lib.hid hZ
        have HLEN := Lib.hid hlen
        clear hal hZ hlen t1
        go_upto_region 16 with (
          at_builtin
          refine wpList_five1 five_ref rfl (.tmp 56) (.tmp 60) rfl w1.heap.size _ N o HN.out (by rfl) (HO'.out.alloc _) wr.heap.size ⟨p, v⟩ (by rfl) (heap_alloc_new wr _) (by omega) (by simp; omega) ?_
          intro v2 w2 ho2 hb2
          have b2 : Below w1.heap.size w1 w2 := hBj.trans (Below.trans (by go_grown) hb2)
          have HO2 := Lib.hid ho2
          obtain ⟨A5, c5, rfl, -⟩ := own_val ho2
          clear ho2 hb2
          try clear d0 d1 d2 d3 d4
          try clear t0
          try clear pa pb pc pg
          try clear zV
          )
        have hz2 : w2.ownsRow w1.heap.size 104 5 (.slice A5 (N + 1) c5) (N + 1) (prv Z) := by rw [← HZ.out]; exact HO2.out
        clear HO2 HO' HN HZ
        obtain ⟨NN, hNN⟩ : ∃ NN, N + 1 = NN := ⟨_, rfl⟩
        rw [hNN] at hz2 HLEN ⊢
        clear hNN
        -- w2: the world, A5, c5: where the new pairs lie, b2: Below w1.heap.size w1 w2; hz2, HLEN : NN = Z.length
        have zz := (b2).size
        obtain ⟨t0, t1, tz⟩ := id (HK.out.keep b2)
        have h3 := ((b2).block _ z3).trans H3.out
        have bw := b1.trans ((b2).mono z1)
        have hz3 := hz2
        rw [HLEN.out] at hz3
        obtain ⟨A8, c8, e8, hrz⟩ := own_rdq hz3
        simp only [Value.slice.injEq, true_and] at e8
        obtain ⟨rfl, rfl⟩ := e8
        have HRZ := Lib.hid hrz
        have hnb := nodes_bd Z HSP.out.1
        have cn : ∀ W, RdQ W A5 Z → Calls Tryz.prog 57 #[.agg #[.slice A5 NN c5, .int .i64 most]] W fun e w' => e = .returned (.int .i64 (nodesL Z)) ∧ Below W.heap.size W w' := fun W hr => by
          have := knodes_any (c := c5) hr HSP.out.1 (by omega) most
          rw [← HLEN.out] at this
          exact this
        have CN := Lib.hid cn
        have hG : ∀ g off, A5 = some ⟨g, off, none⟩ → Z ≠ [] → w1.heap.size ≤ g ∧ g < (w2).heap.size := fun g off e hn => by
          obtain ⟨g', c', e', h1, h2, -⟩ := row_cell hz3 rfl (List.length_pos_iff.2 hn)
          rw [e] at e'
          simp only [Value.slice.injEq, Option.some.injEq, Addr.mk.injEq] at e'
          obtain ⟨⟨rfl, -, -⟩, -⟩ := e'
          exact ⟨h1, h2⟩
        have HG := Lib.hid hG
        clear hz2 hz3 hrz cn hG
        obtain ⟨R, hR⟩ : ∃ R, nodesL Z = R := ⟨_, rfl⟩
        rw [hR] at hnb CN
        have HR := Lib.hid hR
        have hRb : 2 ≤ R ∧ R ≤ 10000000 := by omega
        clear hR hnb
        go_upto_region 17 with fail
        generalize hW : World.alloc _ _ = W
        have hBW : Below (w2).heap.size w2 W := by subst hW; go_grown
        have hB3 : W.heap[(w2).heap.size]? = some (.cells #[.slice A5 NN c5, .int .i64 most] 33 (0, 0)) := by subst hW; repeat (first | (refine hp_new ?_; (simp; done)) | (refine hp_old ?_ ?_; · (first | (simp; done) | (simp; omega))))
        have zW := lt_of_block hB3
        have k0 : W.cell? ⟨(w2).heap.size, 0, none⟩ = some (.slice A5 NN c5) := by rw [cell_row hB3]; rfl
        have k1 : W.cell? ⟨(w2).heap.size, 1, none⟩ = some (.int .i64 most) := by rw [cell_row hB3]; rfl
        replace h3 := (hBW.block _ (by omega)).trans h3
        replace bw := bw.trans (hBW.mono bw.size)
        replace HRZ := Lib.hid (HRZ.out.keep hBW (Nat.le_refl _))
        clear hW hBW t0 t1 tz
        have Lk0 := fun x : Later W.heap.size W => (x.cell zW).trans k0
        have Lk1 := fun x : Later W.heap.size W => (x.cell zW).trans k1
        by_cases hmx : most < R
        · have HMX : Hid (max most R = R) := Lib.hid (by omega)
          refine region_tail 6 W.heap.size (by kernel_rfl) (by kernel_rfl) ?_
          simp only [List.take_succ_cons, List.take_zero, List.drop_succ_cons, List.drop_zero]
          repeat (go_big_quiet_step ((go_at_call 57; exact later_of (Nat.le_refl _) (CN.out _ (HRZ.out.keep (Later.below _) (Nat.le_refl _))))))
          refine wpQuiet_nil ?_
          intro x
          have hx := x.below
          generalize x.at = V at hx ⊢
          clear x Lk0 Lk1 k0 k1
          have hV3 := (hx.block _ zW).trans hB3
          replace h3 := (hx.block _ (by omega)).trans h3
          replace bw := bw.trans (hx.mono bw.size)
          replace HRZ := Lib.hid (HRZ.out.keep hx (Nat.le_refl _))
          have zV := hx.size
          clear hx hB3 CN
          have k0 : V.cell? ⟨(w2).heap.size, 0, none⟩ = some (.slice A5 NN c5) := by rw [cell_row hV3]; rfl
          have k1 : V.cell? ⟨(w2).heap.size, 1, none⟩ = some (.int .i64 most) := by rw [cell_row hV3]; rfl
          have f0 := frozen_of_row V ((w2).heap.size) 0 _ _ hV3
          have f1 := frozen_of_row V ((w2).heap.size) 1 _ _ hV3
          have r0 : V.cell? ⟨w.heap.size + 1 + 1, 0, none⟩ = some (.slice none 0 0) := by rw [cell_row h3]; rfl
          have r1 : V.cell? ⟨w.heap.size + 1 + 1, 1, none⟩ = some (.int .i64 0) := by rw [cell_row h3]; rfl
          have q0 := frozen_of_row V (w.heap.size + 1 + 1) 0 _ _ h3
          have q1 := frozen_of_row V (w.heap.size + 1 + 1) 1 _ _ h3
          have nn : ¬ w.heap.size + 1 + 1 = (w2).heap.size := by omega
          have nn2 : ¬ (w2).heap.size = w.heap.size + 1 + 1 := by omega
          clear hV3 h3
          go_wp2
          refine bodyPost_ret (v := .tuple #[.agg #[.slice A5 NN c5, .int .i64 R], .int .i64 0]) (by simp [*, results, Tryz.results48, go_sem] <;> rfl) rfl ?_
          first
            | refine ⟨A5, c5, ?_, ?_, ?_, ?_⟩
            | refine ⟨A5, ⟨c5, ?_⟩, ?_, ?_, ?_⟩
          · rw [← HLEN.out, HR.out, HMX.out]
          · intro hne
            obtain ⟨g, off, e, hg, hc⟩ := HRZ.out hne
            obtain ⟨g1, g2⟩ := HG.out g off e hne
            have n1 : ¬ (w2).heap.size = g := by omega
            have n2 : ¬ w.heap.size + 1 + 1 = g := by omega
            have n3 : ¬ g = (w2).heap.size := by omega
            have n4 : ¬ g = w.heap.size + 1 + 1 := by omega
            refine ⟨g, off, e, by simpa using hg, fun i hi => ?_⟩
            obtain ⟨c0, c1, c2, c3, c4⟩ := hc i hi
            clear k0 k1 f0 f1 r0 r1 q0 q1
            refine ⟨?_, ?_, ?_, ?_, ?_⟩
            all_goals (go_simp; try assumption)
          · intro g off e hne
            have g1 := (HG.out g off e hne).1
            omega
          · exact bw.trans (((((Below.refl _ _).setCell (by first | (simp; done) | (simp; omega) | omega) _).setCell (by first | (simp; done) | (simp; omega) | omega) _).setCell (by first | (simp; done) | (simp; omega) | omega) _))
        · have HMX : Hid (max most R = most) := Lib.hid (by omega)
          refine region_tail 6 W.heap.size (by kernel_rfl) (by kernel_rfl) ?_
          simp only [List.take_succ_cons, List.take_zero, List.drop_succ_cons, List.drop_zero]
          repeat (go_big_quiet_step ((go_at_call 57; exact later_of (Nat.le_refl _) (CN.out _ (HRZ.out.keep (Later.below _) (Nat.le_refl _))))))
          refine wpQuiet_nil ?_
          intro x
          have hx := x.below
          generalize x.at = V at hx ⊢
          clear x Lk0 Lk1 k0 k1
          have hV3 := (hx.block _ zW).trans hB3
          replace h3 := (hx.block _ (by omega)).trans h3
          replace bw := bw.trans (hx.mono bw.size)
          replace HRZ := Lib.hid (HRZ.out.keep hx (Nat.le_refl _))
          have zV := hx.size
          clear hx hB3 CN
          have k0 : V.cell? ⟨(w2).heap.size, 0, none⟩ = some (.slice A5 NN c5) := by rw [cell_row hV3]; rfl
          have k1 : V.cell? ⟨(w2).heap.size, 1, none⟩ = some (.int .i64 most) := by rw [cell_row hV3]; rfl
          have f0 := frozen_of_row V ((w2).heap.size) 0 _ _ hV3
          have f1 := frozen_of_row V ((w2).heap.size) 1 _ _ hV3
          have r0 : V.cell? ⟨w.heap.size + 1 + 1, 0, none⟩ = some (.slice none 0 0) := by rw [cell_row h3]; rfl
          have r1 : V.cell? ⟨w.heap.size + 1 + 1, 1, none⟩ = some (.int .i64 0) := by rw [cell_row h3]; rfl
          have q0 := frozen_of_row V (w.heap.size + 1 + 1) 0 _ _ h3
          have q1 := frozen_of_row V (w.heap.size + 1 + 1) 1 _ _ h3
          have nn : ¬ w.heap.size + 1 + 1 = (w2).heap.size := by omega
          have nn2 : ¬ (w2).heap.size = w.heap.size + 1 + 1 := by omega
          clear hV3 h3
          go_wp2
          refine bodyPost_ret (v := .tuple #[.agg #[.slice A5 NN c5, .int .i64 most], .int .i64 0]) (by simp [*, results, Tryz.results48, go_sem] <;> rfl) rfl ?_
          first
            | refine ⟨A5, c5, ?_, ?_, ?_, ?_⟩
            | refine ⟨A5, ⟨c5, ?_⟩, ?_, ?_, ?_⟩
          · rw [← HLEN.out, HR.out, HMX.out]
          · intro hne
            obtain ⟨g, off, e, hg, hc⟩ := HRZ.out hne
            obtain ⟨g1, g2⟩ := HG.out g off e hne
            have n1 : ¬ (w2).heap.size = g := by omega
            have n2 : ¬ w.heap.size + 1 + 1 = g := by omega
            have n3 : ¬ g = (w2).heap.size := by omega
            have n4 : ¬ g = w.heap.size + 1 + 1 := by omega
            refine ⟨g, off, e, by simpa using hg, fun i hi => ?_⟩
            obtain ⟨c0, c1, c2, c3, c4⟩ := hc i hi
            clear k0 k1 f0 f1 r0 r1 q0 q1
            refine ⟨?_, ?_, ?_, ?_, ?_⟩
            all_goals (go_simp; try assumption)
          · intro g off e hne
            have g1 := (HG.out g off e hne).1
            omega
          · exact bw.trans (((((Below.refl _ _).setCell (by first | (simp; done) | (simp; omega) | omega) _).setCell (by first | (simp; done) | (simp; omega) | omega) _).setCell (by first | (simp; done) | (simp; omega) | omega) _))
      · have hZ : o = Z := by simpa using hal
        subst hZ
        have HLEN := HN
        have hz2 := HO'.out
        clear hal HO' HN
        go_upto_region 16 with fail
        clear t0 t1 tz
        obtain ⟨NN, hNN⟩ : ∃ NN, N = NN := ⟨_, rfl⟩
        rw [hNN] at hz2 HLEN ⊢
        clear hNN
        obtain ⟨Z, rfl⟩ : ∃ Z, Z = o := ⟨_, rfl⟩
        -- wr: the world, A2, c2: where the new pairs lie, hBj: Below w1.heap.size w1 wr; hz2, HLEN : NN = Z.length
        have zz := (hBj).size
        obtain ⟨t0, t1, tz⟩ := id (HK.out.keep hBj)
        have h3 := ((hBj).block _ z3).trans H3.out
        have bw := b1.trans ((hBj).mono z1)
        have hz3 := hz2
        rw [HLEN.out] at hz3
        obtain ⟨A8, c8, e8, hrz⟩ := own_rdq hz3
        simp only [Value.slice.injEq, true_and] at e8
        obtain ⟨rfl, rfl⟩ := e8
        have HRZ := Lib.hid hrz
        have hnb := nodes_bd Z HSP.out.1
        have cn : ∀ W, RdQ W A2 Z → Calls Tryz.prog 57 #[.agg #[.slice A2 NN c2, .int .i64 most]] W fun e w' => e = .returned (.int .i64 (nodesL Z)) ∧ Below W.heap.size W w' := fun W hr => by
          have := knodes_any (c := c2) hr HSP.out.1 (by omega) most
          rw [← HLEN.out] at this
          exact this
        have CN := Lib.hid cn
        have hG : ∀ g off, A2 = some ⟨g, off, none⟩ → Z ≠ [] → w1.heap.size ≤ g ∧ g < (wr).heap.size := fun g off e hn => by
          obtain ⟨g', c', e', h1, h2, -⟩ := row_cell hz3 rfl (List.length_pos_iff.2 hn)
          rw [e] at e'
          simp only [Value.slice.injEq, Option.some.injEq, Addr.mk.injEq] at e'
          obtain ⟨⟨rfl, -, -⟩, -⟩ := e'
          exact ⟨h1, h2⟩
        have HG := Lib.hid hG
        clear hz2 hz3 hrz cn hG
        obtain ⟨R, hR⟩ : ∃ R, nodesL Z = R := ⟨_, rfl⟩
        rw [hR] at hnb CN
        have HR := Lib.hid hR
        have hRb : 2 ≤ R ∧ R ≤ 10000000 := by omega
        clear hR hnb
        go_upto_region 17 with fail
        generalize hW : World.alloc _ _ = W
        have hBW : Below (wr).heap.size wr W := by subst hW; go_grown
        have hB3 : W.heap[(wr).heap.size]? = some (.cells #[.slice A2 NN c2, .int .i64 most] 33 (0, 0)) := by subst hW; repeat (first | (refine hp_new ?_; (simp; done)) | (refine hp_old ?_ ?_; · (first | (simp; done) | (simp; omega))))
        have zW := lt_of_block hB3
        have k0 : W.cell? ⟨(wr).heap.size, 0, none⟩ = some (.slice A2 NN c2) := by rw [cell_row hB3]; rfl
        have k1 : W.cell? ⟨(wr).heap.size, 1, none⟩ = some (.int .i64 most) := by rw [cell_row hB3]; rfl
        replace h3 := (hBW.block _ (by omega)).trans h3
        replace bw := bw.trans (hBW.mono bw.size)
        replace HRZ := Lib.hid (HRZ.out.keep hBW (Nat.le_refl _))
        clear hW hBW t0 t1 tz
        have Lk0 := fun x : Later W.heap.size W => (x.cell zW).trans k0
        have Lk1 := fun x : Later W.heap.size W => (x.cell zW).trans k1
        by_cases hmx : most < R
        · have HMX : Hid (max most R = R) := Lib.hid (by omega)
          refine region_tail 6 W.heap.size (by kernel_rfl) (by kernel_rfl) ?_
          simp only [List.take_succ_cons, List.take_zero, List.drop_succ_cons, List.drop_zero]
          repeat (go_big_quiet_step ((go_at_call 57; exact later_of (Nat.le_refl _) (CN.out _ (HRZ.out.keep (Later.below _) (Nat.le_refl _))))))
          refine wpQuiet_nil ?_
          intro x
          have hx := x.below
          generalize x.at = V at hx ⊢
          clear x Lk0 Lk1 k0 k1
          have hV3 := (hx.block _ zW).trans hB3
          replace h3 := (hx.block _ (by omega)).trans h3
          replace bw := bw.trans (hx.mono bw.size)
          replace HRZ := Lib.hid (HRZ.out.keep hx (Nat.le_refl _))
          have zV := hx.size
          clear hx hB3 CN
          have k0 : V.cell? ⟨(wr).heap.size, 0, none⟩ = some (.slice A2 NN c2) := by rw [cell_row hV3]; rfl
          have k1 : V.cell? ⟨(wr).heap.size, 1, none⟩ = some (.int .i64 most) := by rw [cell_row hV3]; rfl
          have f0 := frozen_of_row V ((wr).heap.size) 0 _ _ hV3
          have f1 := frozen_of_row V ((wr).heap.size) 1 _ _ hV3
          have r0 : V.cell? ⟨w.heap.size + 1 + 1, 0, none⟩ = some (.slice none 0 0) := by rw [cell_row h3]; rfl
          have r1 : V.cell? ⟨w.heap.size + 1 + 1, 1, none⟩ = some (.int .i64 0) := by rw [cell_row h3]; rfl
          have q0 := frozen_of_row V (w.heap.size + 1 + 1) 0 _ _ h3
          have q1 := frozen_of_row V (w.heap.size + 1 + 1) 1 _ _ h3
          have nn : ¬ w.heap.size + 1 + 1 = (wr).heap.size := by omega
          have nn2 : ¬ (wr).heap.size = w.heap.size + 1 + 1 := by omega
          clear hV3 h3
          go_wp2
          refine bodyPost_ret (v := .tuple #[.agg #[.slice A2 NN c2, .int .i64 R], .int .i64 0]) (by simp [*, results, Tryz.results48, go_sem] <;> rfl) rfl ?_
          first
            | refine ⟨A2, c2, ?_, ?_, ?_, ?_⟩
            | refine ⟨A2, ⟨c2, ?_⟩, ?_, ?_, ?_⟩
          · rw [← HLEN.out, HR.out, HMX.out]
          · intro hne
            obtain ⟨g, off, e, hg, hc⟩ := HRZ.out hne
            obtain ⟨g1, g2⟩ := HG.out g off e hne
            have n1 : ¬ (wr).heap.size = g := by omega
            have n2 : ¬ w.heap.size + 1 + 1 = g := by omega
            have n3 : ¬ g = (wr).heap.size := by omega
            have n4 : ¬ g = w.heap.size + 1 + 1 := by omega
            refine ⟨g, off, e, by simpa using hg, fun i hi => ?_⟩
            obtain ⟨c0, c1, c2, c3, c4⟩ := hc i hi
            clear k0 k1 f0 f1 r0 r1 q0 q1
            refine ⟨?_, ?_, ?_, ?_, ?_⟩
            all_goals (go_simp; try assumption)
          · intro g off e hne
            have g1 := (HG.out g off e hne).1
            omega
          · exact bw.trans (((((Below.refl _ _).setCell (by first | (simp; done) | (simp; omega) | omega) _).setCell (by first | (simp; done) | (simp; omega) | omega) _).setCell (by first | (simp; done) | (simp; omega) | omega) _))
        · have HMX : Hid (max most R = most) := Lib.hid (by omega)
          refine region_tail 6 W.heap.size (by kernel_rfl) (by kernel_rfl) ?_
          simp only [List.take_succ_cons, List.take_zero, List.drop_succ_cons, List.drop_zero]
          repeat (go_big_quiet_step ((go_at_call 57; exact later_of (Nat.le_refl _) (CN.out _ (HRZ.out.keep (Later.below _) (Nat.le_refl _))))))
          refine wpQuiet_nil ?_
          intro x
          have hx := x.below
          generalize x.at = V at hx ⊢
          clear x Lk0 Lk1 k0 k1
          have hV3 := (hx.block _ zW).trans hB3
          replace h3 := (hx.block _ (by omega)).trans h3
          replace bw := bw.trans (hx.mono bw.size)
          replace HRZ := Lib.hid (HRZ.out.keep hx (Nat.le_refl _))
          have zV := hx.size
          clear hx hB3 CN
          have k0 : V.cell? ⟨(wr).heap.size, 0, none⟩ = some (.slice A2 NN c2) := by rw [cell_row hV3]; rfl
          have k1 : V.cell? ⟨(wr).heap.size, 1, none⟩ = some (.int .i64 most) := by rw [cell_row hV3]; rfl
          have f0 := frozen_of_row V ((wr).heap.size) 0 _ _ hV3
          have f1 := frozen_of_row V ((wr).heap.size) 1 _ _ hV3
          have r0 : V.cell? ⟨w.heap.size + 1 + 1, 0, none⟩ = some (.slice none 0 0) := by rw [cell_row h3]; rfl
          have r1 : V.cell? ⟨w.heap.size + 1 + 1, 1, none⟩ = some (.int .i64 0) := by rw [cell_row h3]; rfl
          have q0 := frozen_of_row V (w.heap.size + 1 + 1) 0 _ _ h3
          have q1 := frozen_of_row V (w.heap.size + 1 + 1) 1 _ _ h3
          have nn : ¬ w.heap.size + 1 + 1 = (wr).heap.size := by omega
          have nn2 : ¬ (wr).heap.size = w.heap.size + 1 + 1 := by omega
          clear hV3 h3
          go_wp2
          refine bodyPost_ret (v := .tuple #[.agg #[.slice A2 NN c2, .int .i64 most], .int .i64 0]) (by simp [*, results, Tryz.results48, go_sem] <;> rfl) rfl ?_
          first
            | refine ⟨A2, c2, ?_, ?_, ?_, ?_⟩
            | refine ⟨A2, ⟨c2, ?_⟩, ?_, ?_, ?_⟩
          · rw [← HLEN.out, HR.out, HMX.out]
          · intro hne
            obtain ⟨g, off, e, hg, hc⟩ := HRZ.out hne
            obtain ⟨g1, g2⟩ := HG.out g off e hne
            have n1 : ¬ (wr).heap.size = g := by omega
            have n2 : ¬ w.heap.size + 1 + 1 = g := by omega
            have n3 : ¬ g = (wr).heap.size := by omega
            have n4 : ¬ g = w.heap.size + 1 + 1 := by omega
            refine ⟨g, off, e, by simpa using hg, fun i hi => ?_⟩
            obtain ⟨c0, c1, c2, c3, c4⟩ := hc i hi
            clear k0 k1 f0 f1 r0 r1 q0 q1
            refine ⟨?_, ?_, ?_, ?_, ?_⟩
            all_goals (go_simp; try assumption)
          · intro g off e hne
            have g1 := (HG.out g off e hne).1
            omega
          · exact bw.trans (((((Below.refl _ _).setCell (by first | (simp; done) | (simp; omega) | omega) _).setCell (by first | (simp; done) | (simp; omega) | omega) _).setCell (by first | (simp; done) | (simp; omega) | omega) _))
end

end Go.Proofs.YtcbfppangiopeaaGreat

namespace Go.Proofs.YtcbfppangiopeaaGreat
open Go.RowKit Go.Maps
set_option maxRecDepth 100000

theorem unl_snoc (l : List Int) (x : Int) : unl (l ++ [x]) = unl l + if x ∈ l then 0 else 1 := by
  rw [unl_perm (List.perm_append_comm : (l ++ [x]).Perm ([x] ++ l))]
  rfl
/-- How many unlike hops the first k have. -/
def unlK (T : List Pr) (k : Nat) : Nat := unl (hopsL (T.take k))
theorem unlK_succ (T : List Pr) {k : Nat} (h : k < T.length) : unlK T (k + 1) = unlK T k + if T[k].v ∈ hopsL (T.take k) then 0 else 1 := by
  unfold unlK hopsL
  rw [List.take_succ_eq_append_getElem h, List.map_append]
  exact unl_snoc _ _
theorem unlK_le (T : List Pr) (k : Nat) : unlK T k ≤ T.length := by
  unfold unlK
  have h1 := unl_le (hopsL (T.take k))
  unfold hopsL at h1 ⊢
  rw [List.length_map, List.length_take] at h1
  omega
/-- Is none of the first k of that hop? -/
def fstK (T : List Pr) (v : Int) (k : Nat) : Bool := (T.take k).all fun x => decide (x.v ≠ v)
theorem fstK_succ (T : List Pr) (v : Int) {k : Nat} (h : k < T.length) : fstK T v (k + 1) = (fstK T v k && decide (T[k].v ≠ v)) := by
  unfold fstK
  rw [List.take_succ_eq_append_getElem h, List.all_append]
  simp
theorem fstK_mem (T : List Pr) (v : Int) (k : Nat) : fstK T v k = !decide (v ∈ hopsL (T.take k)) := by
  unfold fstK
  rw [Bool.eq_iff_iff]
  simp only [List.all_eq_true, decide_eq_true_eq, Bool.not_eq_true', decide_eq_false_iff_not]
  constructor
  · intro h hm
    obtain ⟨x, hx, e⟩ := mem_hops.1 hm
    exact h x hx e
  · intro h x hx e
    exact h (mem_hops.2 ⟨x, hx, e⟩)

end Go.Proofs.YtcbfppangiopeaaGreat

namespace Go.Proofs.YtcbfppangiopeaaGreat
open Go.RowKit Go.Maps
set_option maxRecDepth 100000

section
variable {w : World} {A : Option Addr} {c : Nat} {L : List Pr}
set_option maxHeartbeats 4000000 in
theorem khops_any (hr : RdQ w A L) (hl : L.length ≤ 100000) : Calls Tryz.prog 49 #[.slice A L.length c] w fun e w' => e = .returned (.int .i64 (unl (hopsL L) : Int)) ∧ Below w.heap.size w w' := by
  have HRD := Lib.hid hr
  clear hr
  obtain ⟨R, hR⟩ : ∃ R : Nat, unl (hopsL L) = R := ⟨_, rfl⟩
  rw [hR]
  have HR := Lib.hid hR
  clear hR
  go_enter Tryz.func49, Tryz.ntmps49
  go_wp2_with fail
  go_loopw [3, 4] (fun v i wr => ∃ k : Nat, k ≤ L.length ∧ i = .int .i64 k ∧ v = .int .i64 (unlK L k : Int) ∧ Below w.heap.size w wr) (fun _ i _ => L.length - (RowKit.intOf i).toNat)
  case atStart => exact ⟨0, Nat.zero_le _, rfl, rfl, Below.refl _ _⟩
  case round =>
    obtain ⟨k, hk, rfl, rfl, hB⟩ := hrel
    have hub := unlK_le L k
    by_cases hlt : k < L.length
    · -- as rdq5, but all the cells' facts stay (hc)
      obtain ⟨g, off, rfl, hg, hc⟩ := HRD.out (by intro e; rw [e] at hlt; cases hlt)
      obtain ⟨c0, c1, c2, c3, c4⟩ := hc k hlt
      have d0 := (hB.cell (p := ⟨g, off + k * 5, none⟩) hg).trans c0
      have d1 := (hB.cell (p := ⟨g, off + k * 5 + 1, none⟩) hg).trans c1
      have d2 := (hB.cell (p := ⟨g, off + k * 5 + 2, none⟩) hg).trans c2
      have d3 := (hB.cell (p := ⟨g, off + k * 5 + 3, none⟩) hg).trans c3
      have d4 := (hB.cell (p := ⟨g, off + k * 5 + 4, none⟩) hg).trans c4
      have gz : g < wr.heap.size := Nat.lt_of_lt_of_le hg hB.size
      have HC := Lib.hid hc
      clear c0 c1 c2 c3 c4 hc
      have hus := unlK_succ L hlt
      have hfm := fstK_mem L L[k].v k
      have hfs := fun j (h : j < L.length) => fstK_succ L L[k].v h
      obtain ⟨y, hy⟩ : ∃ y, L[k] = y := ⟨_, rfl⟩
      rw [hy] at d0 d1 d2 d3 d4 hus hfm
      simp only [hy] at hfs
      obtain ⟨n0, hn0⟩ : ∃ n0, unlK L k = n0 := ⟨_, rfl⟩
      rw [hn0] at hus hub ⊢
      have HUS := Lib.hid hus
      have HFM := Lib.hid hfm
      have HFS := Lib.hid hfs
      clear hus hfm hfs hy hn0 d0 d1 d2 d3
      obtain ⟨w5, rfl⟩ : ∃ w5, w5 = wr := ⟨_, rfl⟩
      go_wp2_with fail
      go_loopw [5] (fun i wx => ∃ j : Nat, j ≤ k ∧ i = .int .i64 j ∧ fstK L y.v j = true ∧ Below w5.heap.size w5 wx) (fun i _ => k - (RowKit.intOf i).toNat)
      case atStart => exact ⟨0, Nat.zero_le _, rfl, rfl, Below.refl _ _⟩
      case round =>
        obtain ⟨j, hj, rfl, hf, hBx⟩ := hrel
        have HF := Lib.hid hf
        have hB2 := hB.trans (hBx.mono hB.size)
        replace d4 := (hBx.cell (p := ⟨g, off + k * 5 + 4, none⟩) gz).trans d4
        have gz2 : g < wr.heap.size := Nat.lt_of_lt_of_le gz hBx.size
        clear hf
        by_cases hjk : j < k
        · obtain ⟨-, -, -, -, f4⟩ := HC.out j (by omega)
          replace f4 := (hB2.cell (p := ⟨g, off + j * 5 + 4, none⟩) hg).trans f4
          have hfs := HFS.out j (by omega)
          rw [HF.out] at hfs
          obtain ⟨z, hz⟩ : ∃ z, L[j] = z := ⟨_, rfl⟩
          rw [hz] at f4 hfs
          have HFJ := Lib.hid hfs
          have HZ := Lib.hid hz
          have jt : decide ((j : Int) < (k : Int)) = true := by simp; omega
          have j1 : (j : Int) < (L.length : Int) := by omega
          have k1 : (k : Int) < (L.length : Int) := by omega
          clear hfs hz HFS HC
          obtain ⟨W, rfl⟩ : ∃ W, W = wr := ⟨_, rfl⟩
          have Lf4 := fun x : Later W.heap.size W => (x.cell (p := ⟨g, off + j * 5 + 4, none⟩) gz2).trans f4
          have Ld4 := fun x : Later W.heap.size W => (x.cell (p := ⟨g, off + k * 5 + 4, none⟩) gz2).trans d4
          by_cases hv : z.v = y.v
          · have tv : (z.v == y.v) = true := by simp [hv]
            have hnf : Hid (fstK L y.v (j + 1) = false) := Lib.hid (by rw [HFJ.out]; simp [hv])
            have HQ : Hid (unlK L (k + 1) = n0) := Lib.hid (by
              have hm : z ∈ L.take k := by
                rw [← HZ.out, List.mem_take_iff_getElem]
                exact ⟨j, by omega, rfl⟩
              rw [HUS.out, if_pos (mem_hops.2 ⟨z, hm, hv⟩), Nat.add_zero])
            go_wp2_with fail
            refine region_later W.heap.size (by kernel_rfl) (by kernel_rfl) ?_
            repeat (go_big_quiet_step (fail))
            refine wpQuiet_nil ?_
            intro x
            have hx := x.below
            generalize x.at = V at hx ⊢
            clear x Lf4 Ld4 f4 d4
            have bV := hBx.trans (hx.mono hBx.size)
            have bV2 := hB2.trans (hx.mono hB2.size)
            clear hx
            have tj : ((j : Int) == (k : Int)) = false := by simp; omega
            clear jt j1 k1
            go_wp2
            go_roundw
            case rel => exact ⟨k + 1, by omega, by go_num, by rw [HQ.out], bV2⟩
            case measure => simp [RowKit.intOf]; omega
          · have tv : (z.v == y.v) = false := by simp [hv]
            have hnf : Hid (fstK L y.v (j + 1) = true) := Lib.hid (by rw [HFJ.out]; simp [hv])
            go_wp2_with fail
            refine region_later W.heap.size (by kernel_rfl) (by kernel_rfl) ?_
            repeat (go_big_quiet_step (fail))
            refine wpQuiet_nil ?_
            intro x
            have hx := x.below
            generalize x.at = V at hx ⊢
            clear x Lf4 Ld4 f4 d4
            have bV := hBx.trans (hx.mono hBx.size)
            have bV2 := hB2.trans (hx.mono hB2.size)
            clear hx
            clear jt j1 k1
            go_wp2
            go_roundw
            case rel => exact ⟨j + 1, by omega, by go_num, hnf.out, bV⟩
            case measure => simp [RowKit.intOf]; omega
        · have e : k = j := by omega
          subst e
          have HQ : Hid (unlK L (k + 1) = n0 + 1) := Lib.hid (by
            have h1 := HFM.out
            rw [HF.out] at h1
            rw [HUS.out, if_neg (by simpa using h1.symm)])
          have jt : decide ((k : Int) < (k : Int)) = false := by simp
          have tj : ((k : Int) == (k : Int)) = true := by simp
          have hn9 : (n0 : Int) ≤ 100000 := by omega
          obtain ⟨W, rfl⟩ : ∃ W, W = wr := ⟨_, rfl⟩
          go_wp2_with fail
          refine region_later W.heap.size (by kernel_rfl) (by kernel_rfl) ?_
          repeat (go_big_quiet_step (fail))
          refine wpQuiet_nil ?_
          intro x
          have hx := x.below
          generalize x.at = V at hx ⊢
          clear x d4 HC HFS HFM HUS HF jt
          have bV2 := hB2.trans (hx.mono hB2.size)
          clear hx
          go_wp2
          go_roundw
          case rel => exact ⟨k + 1, by omega, by go_num, by rw [HQ.out]; rfl, bV2⟩
          case measure => simp [RowKit.intOf]; omega
    · obtain rfl : k = L.length := by omega
      have e : unlK L L.length = R := by unfold unlK; rw [List.take_length]; exact HR.out
      rw [e]
      have kt : decide ((L.length : Int) < (L.length : Int)) = false := by simp
      clear e
      go_wp2
      go_ret
      exact ⟨rfl, hB⟩
end

end Go.Proofs.YtcbfppangiopeaaGreat

namespace Go.Proofs.YtcbfppangiopeaaGreat
open Go.RowKit Go.Maps
set_option maxRecDepth 100000

/-- Routes of the document's answer lie in a block. -/
def VBox (w : World) (b : Nat) (A : Option Addr) (l c : Nat) (most n h : Int) : Prop := w.cell? ⟨b, 0, none⟩ = some (.slice A l c) ∧ w.cell? ⟨b, 1, none⟩ = some (.int .i64 most) ∧ w.cell? ⟨b, 2, none⟩ = some (.int .i64 n) ∧ w.cell? ⟨b, 3, none⟩ = some (.int .i64 h) ∧ b < w.heap.size
theorem VBox.keep {w w' : World} {b l c : Nat} {A : Option Addr} {most n h : Int} (H : VBox w b A l c most n h) (hb : Below w.heap.size w w') : VBox w' b A l c most n h := by
  obtain ⟨h0, h1, h2, h3, hz⟩ := H
  exact ⟨(hb.cell hz).trans h0, (hb.cell hz).trans h1, (hb.cell hz).trans h2, (hb.cell hz).trans h3, Nat.lt_of_lt_of_le hz hb.size⟩
set_option maxHeartbeats 1000000 in
theorem knew5_any (w : World) : Calls Tryz.prog 16 #[] w fun e w' => e = .returned (.agg #[.slice none 0 0, .int .i64 2]) ∧ Below w.heap.size w w' := by
  go_enter Tryz.func16, Tryz.ntmps16
  go_wp2
  refine bodyPost_ret (v := .agg #[.slice none 0 0, .int .i64 2]) (by simp [*, results, Tryz.results16, go_sem] <;> rfl) rfl ⟨rfl, ?_⟩
  go_grown
set_option maxHeartbeats 1000000 in
theorem knew6_any (w : World) : Calls Tryz.prog 6 #[.int .i64 200, .int .i64 200] w fun e w' => e = .returned (.agg #[.slice none 0 0, .int .i64 2, .int .i64 200, .int .i64 200]) ∧ Below w.heap.size w w' := by
  go_enter Tryz.func6, Tryz.ntmps6
  go_wp2_with fail
  refine (knew5_any _).mono ?_
  rintro e w1 ⟨rfl, hw1⟩
  have b1 : Below w.heap.size w w1 := below_of (by go_grown) hw1
  have h3 : w1.heap[w.heap.size]? = some (.cells #[.slice none 0 0, .int .i64 0, .int .i64 0, .int .i64 0] 35 (0, 0)) := (hw1.block (w.heap.size) (by go_size)).trans (by repeat (first | (refine hp_new ?_; (simp; done)) | (refine hp_old ?_ ?_; · (first | (simp; done) | (simp; omega)))))
  have r0 : w1.cell? ⟨w.heap.size, 0, none⟩ = some (.slice none 0 0) := by rw [cell_row h3]; rfl
  have r1 : w1.cell? ⟨w.heap.size, 1, none⟩ = some (.int .i64 0) := by rw [cell_row h3]; rfl
  have r2 : w1.cell? ⟨w.heap.size, 2, none⟩ = some (.int .i64 0) := by rw [cell_row h3]; rfl
  have r3 : w1.cell? ⟨w.heap.size, 3, none⟩ = some (.int .i64 0) := by rw [cell_row h3]; rfl
  have q0 := frozen_of_row w1 (w.heap.size) 0 _ _ h3
  have q1 := frozen_of_row w1 (w.heap.size) 1 _ _ h3
  have q2 := frozen_of_row w1 (w.heap.size) 2 _ _ h3
  have q3 := frozen_of_row w1 (w.heap.size) 3 _ _ h3
  clear hw1 h3
  go_wp2
  refine bodyPost_ret (v := .agg #[.slice none 0 0, .int .i64 2, .int .i64 200, .int .i64 200]) (by simp [*, results, Tryz.results6, go_sem] <;> rfl) rfl ⟨rfl, ?_⟩
  exact b1.trans (((((Below.refl _ _).setCell (by simp) _).setCell (by simp) _).setCell (by simp) _).setCell (by simp) _)
set_option maxHeartbeats 1000000 in
theorem kroute_any (x : Pr) (b : Bool) (w : World) : Calls Tryz.prog 51 #[.agg #[.int .u64 (u x.p.a.hi), .int .u64 (u x.p.a.lo), .bool x.p.a.v6, .int .i64 x.p.n, .int .i64 x.v], .bool b] w fun e w' => e = .returned (.tuple #[.agg #[.int .u64 (u x.p.a.hi), .int .u64 (u x.p.a.lo), .bool x.p.a.v6, .int .i64 x.p.n, .int .i64 x.v], .bool b]) ∧ Below w.heap.size w w' := by
  go_enter Tryz.func51, Tryz.ntmps51
  go_wp2
  refine bodyPost_ret (v := .tuple #[.agg #[.int .u64 (u x.p.a.hi), .int .u64 (u x.p.a.lo), .bool x.p.a.v6, .int .i64 x.p.n, .int .i64 x.v], .bool b]) (by simp [*, results, Tryz.results51, go_sem] <;> rfl) rfl ⟨rfl, ?_⟩
  go_grown

section
variable {w : World} {A : Option Addr} {c : Nat} {L : List Pr}
set_option maxHeartbeats 1000000 in
theorem kins6_any (hr : RdQ w A L) (hl : L.length ≤ 1000000) (most n h : Int) (p : Pf) : Calls Tryz.prog 26 #[.agg #[.slice A L.length c, .int .i64 most, .int .i64 n, .int .i64 h], .agg #[.int .u64 (u p.a.hi), .int .u64 (u p.a.lo), .bool p.a.v6, .int .i64 p.n]] w fun e w' => e = .returned (.bool (insL L p)) ∧ Below w.heap.size w w' := by
  have HRD := Lib.hid hr
  clear hr
  go_enter Tryz.func26, Tryz.ntmps26
  go_wp2_with fail
  refine (kins_any (HRD.out.keep (B := w.heap.size) (by go_grown) (Nat.le_refl _)) hl most p).mono ?_
  rintro e w1 ⟨rfl, hw1⟩
  have b1 : Below w.heap.size w w1 := below_of (by go_grown) hw1
  clear hw1
  go_wp2
  go_ret
  exact ⟨rfl, b1⟩
set_option maxHeartbeats 2000000 in
theorem kgov_any (hr : RdQ w A L) (hl : L.length ≤ 1000000) (most n h : Int) (p : Pf) : Calls Tryz.prog 22 #[.agg #[.slice A L.length c, .int .i64 most, .int .i64 n, .int .i64 h], .agg #[.int .u64 (u p.a.hi), .int .u64 (u p.a.lo), .bool p.a.v6, .int .i64 p.n]] w (OptPost w (govL L p)) := by
  have HRD := Lib.hid hr
  clear hr
  have hfl := List.length_filter_le (fun x : Pr => pcov x.p p) L
  have ca := fun W (hr : RdQ W A L) => kabove_any (c := c) hr hl most p
  unfold govL
  obtain ⟨F, hF⟩ : ∃ F, (L.filter fun x => pcov x.p p) = F := ⟨_, rfl⟩
  rw [hF] at hfl ca ⊢
  have CA := Lib.hid ca
  clear ca hF
  go_enter Tryz.func22, Tryz.ntmps22
  go_wp2_with fail
  refine (CA.out _ (HRD.out.keep (B := w.heap.size) (by go_grown) (Nat.le_refl _))).mono ?_
  rintro e w5 ⟨v5, rfl, ho5, hw5⟩
  have b5 : Below w.heap.size w w5 := below_of (by go_grown) hw5
  have h5 : w5.heap[w.heap.size + 1 + 1]? = some (.cells #[.int .u64 0, .int .u64 0, .bool false, .int .i64 0, .int .i64 0] 51 (0, 0)) := (hw5.block (w.heap.size + 1 + 1) (by go_size)).trans (by repeat (first | (refine hp_new ?_; (simp; done)) | (refine hp_old ?_ ?_; · (first | (simp; done) | (simp; omega)))))
  have z5 := lt_of_block h5
  have HO := Lib.hid ho5
  obtain ⟨A5, c5, rfl, -⟩ := own_val ho5
  clear ho5 hw5 CA HRD
  rcases Nat.eq_zero_or_pos F.length with hl0 | hl0
  · have hF0 : F = [] := List.eq_nil_of_length_eq_zero hl0
    subst hF0
    have r0 : w5.cell? ⟨w.heap.size + 1 + 1, 0, none⟩ = some (.int .u64 0) := by rw [cell_row h5]; rfl
    have r1 : w5.cell? ⟨w.heap.size + 1 + 1, 1, none⟩ = some (.int .u64 0) := by rw [cell_row h5]; rfl
    have r2 : w5.cell? ⟨w.heap.size + 1 + 1, 2, none⟩ = some (.bool false) := by rw [cell_row h5]; rfl
    have r3 : w5.cell? ⟨w.heap.size + 1 + 1, 3, none⟩ = some (.int .i64 0) := by rw [cell_row h5]; rfl
    have r4 : w5.cell? ⟨w.heap.size + 1 + 1, 4, none⟩ = some (.int .i64 0) := by rw [cell_row h5]; rfl
    have q0 := frozen_of_row w5 (w.heap.size + 1 + 1) 0 _ _ h5
    have q1 := frozen_of_row w5 (w.heap.size + 1 + 1) 1 _ _ h5
    have q2 := frozen_of_row w5 (w.heap.size + 1 + 1) 2 _ _ h5
    have q3 := frozen_of_row w5 (w.heap.size + 1 + 1) 3 _ _ h5
    have q4 := frozen_of_row w5 (w.heap.size + 1 + 1) 4 _ _ h5
    clear h5
    go_wp2
    refine bodyPost_ret (v := .tuple #[.agg #[.int .u64 0, .int .u64 0, .bool false, .int .i64 0, .int .i64 0], .bool false]) (by simp [*, results, Tryz.results22, go_sem] <;> rfl) rfl ⟨rfl, ?_⟩
    exact b5.trans ((((((Below.refl _ _).setCell (by simp; omega) _).setCell (by simp; omega) _).setCell (by simp; omega) _).setCell (by simp; omega) _).setCell (by simp; omega) _)
  · obtain ⟨k, hk⟩ : ∃ k, F.length = k + 1 := ⟨F.length - 1, by omega⟩
    have hkl : k < F.length := by omega
    have hgo : F.getLast? = some F[k] := by
      rw [List.getLast?_eq_getElem?, hk, Nat.add_sub_cancel, List.getElem?_eq_getElem hkl]
    obtain ⟨g, cg, eg, -, zg, hcc⟩ := row_cell HO.out rfl hkl
    simp only [Value.slice.injEq, true_and] at eg
    obtain ⟨rfl, rfl⟩ := eg
    have m0 : w5.cell? ⟨g, k * 5, none⟩ = some (.int .u64 (u F[k].p.a.hi)) := hcc 0 (by omega)
    have m1 : w5.cell? ⟨g, k * 5 + 1, none⟩ = some (.int .u64 (u F[k].p.a.lo)) := hcc 1 (by omega)
    have m2 : w5.cell? ⟨g, k * 5 + 2, none⟩ = some (.bool F[k].p.a.v6) := hcc 2 (by omega)
    have m3 : w5.cell? ⟨g, k * 5 + 3, none⟩ = some (.int .i64 F[k].p.n) := hcc 3 (by omega)
    have m4 : w5.cell? ⟨g, k * 5 + 4, none⟩ = some (.int .i64 F[k].v) := hcc 4 (by omega)
    generalize F[k] = y at m0 m1 m2 m3 m4 hgo
    have HGO := Lib.hid hgo
    obtain ⟨K, hK⟩ : ∃ K, F.length = K := ⟨_, rfl⟩
    have t1 : ((K : Int) == 0) = false := by simp; omega
    have hkk : (K : Int) - 1 = (k : Int) := by omega
    have hkn : k < K := by omega
    have hk9 : K ≤ 5000000 := by omega
    rw [hK]
    clear hK
    have Z5 := Lib.hid z5
    clear hk hkl hl0 hfl hgo hcc HO hl z5
    go_wp2_with fail
    refine (kroute_any y true _).mono ?_
    rintro e w6 ⟨rfl, hw6⟩
    have h6 := (hw6.block (w.heap.size + 1 + 1) Z5.out).trans h5
    have b6 := b5.trans (hw6.mono b5.size)
    have r0 : w6.cell? ⟨w.heap.size + 1 + 1, 0, none⟩ = some (.int .u64 0) := by rw [cell_row h6]; rfl
    have r1 : w6.cell? ⟨w.heap.size + 1 + 1, 1, none⟩ = some (.int .u64 0) := by rw [cell_row h6]; rfl
    have r2 : w6.cell? ⟨w.heap.size + 1 + 1, 2, none⟩ = some (.bool false) := by rw [cell_row h6]; rfl
    have r3 : w6.cell? ⟨w.heap.size + 1 + 1, 3, none⟩ = some (.int .i64 0) := by rw [cell_row h6]; rfl
    have r4 : w6.cell? ⟨w.heap.size + 1 + 1, 4, none⟩ = some (.int .i64 0) := by rw [cell_row h6]; rfl
    have q0 := frozen_of_row w6 (w.heap.size + 1 + 1) 0 _ _ h6
    have q1 := frozen_of_row w6 (w.heap.size + 1 + 1) 1 _ _ h6
    have q2 := frozen_of_row w6 (w.heap.size + 1 + 1) 2 _ _ h6
    have q3 := frozen_of_row w6 (w.heap.size + 1 + 1) 3 _ _ h6
    have q4 := frozen_of_row w6 (w.heap.size + 1 + 1) 4 _ _ h6
    clear h6 h5 hw6 m0 m1 m2 m3 m4
    go_wp2
    refine bodyPost_ret (v := .tuple #[.agg #[.int .u64 (u y.p.a.hi), .int .u64 (u y.p.a.lo), .bool y.p.a.v6, .int .i64 y.p.n, .int .i64 y.v], .bool true]) (by simp [*, results, Tryz.results22, go_sem] <;> rfl) rfl ⟨by rw [HGO.out]; rfl, ?_⟩
    exact b6.trans ((((((Below.refl _ _).setCell (by simp; omega) _).setCell (by simp; omega) _).setCell (by simp; omega) _).setCell (by simp; omega) _).setCell (by simp; omega) _)
end

end Go.Proofs.YtcbfppangiopeaaGreat

namespace Go.Proofs.YtcbfppangiopeaaGreat
open Go.RowKit Go.Maps
set_option maxRecDepth 100000

def KAddPost (w : World) (n h : Int) (Z : List Pr) (E : Int) (e : Ending) (w' : World) : Prop := ∃ A' c' most', e = .returned (.tuple #[.agg #[.slice A' Z.length c', .int .i64 most', .int .i64 n, .int .i64 h], .int .i64 E]) ∧ RdQ w' A' Z ∧ (0 ≤ most' ∧ most' ≤ 2000000) ∧ Below w.heap.size w w'
theorem put_ne (p : Pf) (k : Int) (L : List Pr) : putL p k L ≠ [] := by
  cases L with
  | nil => simp [putL]
  | cons x l =>
    unfold putL
    split
    · simp
    · split <;> simp
section
variable {w : World} {A : Option Addr} {c : Nat} {L : List Pr}
set_option maxHeartbeats 8000000 in
theorem kadd_any (hr : RdQ w A L) (hs : Srt L) (hl : L.length ≤ 5000) (most : Int) (hmo : 0 ≤ most ∧ most ≤ 2000000) (n h : Int) (_ : 0 ≤ n ∧ n ≤ 4096) (_ : 0 ≤ h ∧ h ≤ 65536) (p : Pf) (k : Int) :
    Calls Tryz.prog 19 #[.agg #[.slice A L.length c, .int .i64 most, .int .i64 n, .int .i64 h], .agg #[.int .u64 (u p.a.hi), .int .u64 (u p.a.lo), .bool p.a.v6, .int .i64 p.n], .int .i64 k] w (KAddPost w n h (addQ n h L p k) (addE n h L p k)) := by
  have HRD := Lib.hid hr
  have key : ∀ E w', Below w.heap.size w w' → KAddPost w n h L E (.returned (.tuple #[.agg #[.slice A L.length c, .int .i64 most, .int .i64 n, .int .i64 h], .int .i64 E])) w' := fun E w' hb => ⟨A, c, most, rfl, hr.keep hb (Nat.le_refl _), hmo, hb⟩
  have cs := rpsane_any p
  have cp := fun W (hr : RdQ W A L) (hp : psane p = true) => kput_yes (c := c) hr hs (by omega) most (by omega) p k hp
  have hps := fun (hp : psane p = true) => put_srt (v := k) hs hp
  have hpl := fun (hp : psane p = true) => put_len (v := k) hs hp
  have hne : putL p k L ≠ [] := put_ne p k L
  have hfb : fitsB n h L p k = (decide (((putL p k L).length : Int) ≤ n) && decide ((unl (hopsL (putL p k L)) : Int) ≤ h)) := rfl
  clear hr
  cases hp : psane p
  · have e1 : addE n h L p k = 1 := by unfold addE; rw [hp]; rfl
    have e2 : addQ n h L p k = L := by unfold addQ; rw [e1]; rfl
    rw [e1, e2]
    rw [hp] at cs
    have CS := Lib.hid cs
    have KEY := Lib.hid (key 1)
    clear cs cp hps hpl hne hfb key hp e1 e2 hs
    go_enter Tryz.func19, Tryz.ntmps19
    go_wp2_with fail
    refine (CS.out _).mono ?_
    rintro e w1 ⟨rfl, hw1⟩
    have b1 : Below w.heap.size w w1 := below_of (by go_grown) hw1
    have hV : VBox w1 w.heap.size A L.length c most n h := VBox.keep (by refine ⟨?_, ?_, ?_, ?_, ?_⟩ <;> first | (go_simp; done) | (go_simp <;> rfl) | go_size) hw1
    have hP : PBox w1 (w.heap.size + 1) p := PBox.keep (by exact ⟨by go_simp <;> rfl, by go_simp <;> rfl, by go_simp <;> rfl, by go_simp <;> rfl, by go_simp <;> rfl, by go_simp <;> rfl, by go_simp <;> rfl, by go_simp <;> rfl, by go_size⟩) hw1
    have h3 : w1.heap[w.heap.size + 1 + 1]? = some (.cells #[.slice none 0 0, .int .i64 0, .int .i64 0, .int .i64 0] 35 (0, 0)) := (hw1.block (w.heap.size + 1 + 1) (by go_size)).trans (by repeat (first | (refine hp_new ?_; (simp; done)) | (refine hp_old ?_ ?_; · (first | (simp; done) | (simp; omega)))))
    have z3 := lt_of_block h3
    obtain ⟨v0, v1, v2, v3, vz⟩ := id hV
    clear hw1 CS
    clear hV hP
    -- w1: the world, b1: its Below, 1: the errno
    have r0 : w1.cell? ⟨w.heap.size + 1 + 1, 0, none⟩ = some (.slice none 0 0) := by rw [cell_row h3]; rfl
    have r1 : w1.cell? ⟨w.heap.size + 1 + 1, 1, none⟩ = some (.int .i64 0) := by rw [cell_row h3]; rfl
    have r2 : w1.cell? ⟨w.heap.size + 1 + 1, 2, none⟩ = some (.int .i64 0) := by rw [cell_row h3]; rfl
    have r3 : w1.cell? ⟨w.heap.size + 1 + 1, 3, none⟩ = some (.int .i64 0) := by rw [cell_row h3]; rfl
    have q0 := frozen_of_row w1 (w.heap.size + 1 + 1) 0 _ _ h3
    have q1 := frozen_of_row w1 (w.heap.size + 1 + 1) 1 _ _ h3
    have q2 := frozen_of_row w1 (w.heap.size + 1 + 1) 2 _ _ h3
    have q3 := frozen_of_row w1 (w.heap.size + 1 + 1) 3 _ _ h3
    clear h3
    go_wp2
    refine bodyPost_ret (v := .tuple #[.agg #[.slice A L.length c, .int .i64 most, .int .i64 n, .int .i64 h], .int .i64 1]) (by simp [*, results, Tryz.results19, go_sem] <;> rfl) rfl ?_
    exact KEY.out _ ((b1).trans (((((Below.refl _ _).setCell (by simp; omega) _).setCell (by simp; omega) _).setCell (by simp; omega) _).setCell (by simp; omega) _))
  · rw [hp] at cs
    have CS := Lib.hid cs
    by_cases hk : 0 ≤ k ∧ k ≤ 65535
    · have hZs := hps hp
      have hZl := hpl hp
      have cp' := fun W hr => cp W hr hp
      obtain ⟨Z, hZ⟩ : ∃ Z, putL p k L = Z := ⟨_, rfl⟩
      rw [hZ] at hZs hZl cp' hne hfb
      have hZ9 : Z.length ≤ 5001 := by rw [hZl]; split <;> omega
      have ch := fun W B d (hr : RdQ W B Z) => khops_any (c := d) hr (by omega)
      have hnb := nodes_bd Z hZs.1
      obtain ⟨U, hU⟩ : ∃ U, unl (hopsL Z) = U := ⟨_, rfl⟩
      rw [hU] at ch hfb
      obtain ⟨NN, hNN⟩ : ∃ NN, Z.length = NN := ⟨_, rfl⟩
      obtain ⟨R, hR⟩ : ∃ R, max most (nodesL Z) = R := ⟨_, rfl⟩
      have hRb : 0 ≤ R ∧ R ≤ 2000000 := by omega
      rw [hNN, hR] at cp'
      rw [hNN] at ch hfb hZ9
      have CP := Lib.hid cp'
      have CH := Lib.hid ch
      have hk1 : decide (k < 0) = false := by simp; omega
      have hk2 : decide (65535 < k) = false := by simp; omega
      have HNE := Lib.hid hne
      have HFB := Lib.hid hfb
      have HNN := Lib.hid hNN
      have hE : addE n h L p k = if fitsB n h L p k = true then 0 else 3 := by unfold addE; rw [if_pos hp, if_pos hk]
      have hQ : addE n h L p k = 0 → addQ n h L p k = Z := fun e => by unfold addQ; rw [if_pos e]; exact hZ
      have hQ' : addE n h L p k = 3 → addQ n h L p k = L := fun e => by unfold addQ; rw [if_neg (by rw [e]; decide)]
      have HE := Lib.hid hE
      have HQ := Lib.hid hQ
      have HQ' := Lib.hid hQ'
      have KEY := Lib.hid (key 3)
      clear cs cp cp' ch hps hpl hne hfb key hZs hZl hZ hnb hU hNN hR hE hQ hQ' hs hp hk
      by_cases g1 : n < (NN : Int)
      · have e1 : addE n h L p k = 3 := by rw [HE.out, HFB.out, decide_eq_false (by omega)]; rfl
        rw [e1, HQ'.out e1]
        have tg : decide (n < (NN : Int)) = true := decide_eq_true g1
        clear e1 g1
        go_enter Tryz.func19, Tryz.ntmps19
        go_wp2_with fail
        refine (CS.out _).mono ?_
        rintro e w1 ⟨rfl, hw1⟩
        have b1 : Below w.heap.size w w1 := below_of (by go_grown) hw1
        have hV : VBox w1 w.heap.size A L.length c most n h := VBox.keep (by refine ⟨?_, ?_, ?_, ?_, ?_⟩ <;> first | (go_simp; done) | (go_simp <;> rfl) | go_size) hw1
        have hP : PBox w1 (w.heap.size + 1) p := PBox.keep (by exact ⟨by go_simp <;> rfl, by go_simp <;> rfl, by go_simp <;> rfl, by go_simp <;> rfl, by go_simp <;> rfl, by go_simp <;> rfl, by go_simp <;> rfl, by go_simp <;> rfl, by go_size⟩) hw1
        have h3 : w1.heap[w.heap.size + 1 + 1]? = some (.cells #[.slice none 0 0, .int .i64 0, .int .i64 0, .int .i64 0] 35 (0, 0)) := (hw1.block (w.heap.size + 1 + 1) (by go_size)).trans (by repeat (first | (refine hp_new ?_; (simp; done)) | (refine hp_old ?_ ?_; · (first | (simp; done) | (simp; omega)))))
        have z3 := lt_of_block h3
        obtain ⟨v0, v1, v2, v3, vz⟩ := id hV
        clear hw1 CS
        obtain ⟨pa, pb, pc, pg, -, -, -, -, pz⟩ := id hP
        have HV := Lib.hid hV
        clear hV hP
        go_wp2_with fail
        refine (CP.out _ (HRD.out.keep b1 (Nat.le_refl _))).mono ?_
        rintro e w2 ⟨A', c', rfl, hrz, hG, hw2⟩
        have b2 := b1.trans (hw2.mono b1.size)
        have HG : Hid (∀ g off, A' = some ⟨g, off, none⟩ → Z ≠ [] → w1.heap.size ≤ g) := Lib.hid hG
        replace h3 := (hw2.block _ z3).trans h3
        have HV2 := Lib.hid (HV.out.keep hw2)
        have y2 := hw2.size
        have HRZ2 := Lib.hid hrz
        clear hrz hG hw2 HV pa pb pc pg pz v0 v1 v2 v3 vz CP
        go_upto_region 6 with fail
        generalize hW : World.alloc _ _ = W
        have hBW : Below w2.heap.size w2 W := by subst hW; go_grown
        have hK : KBox W w2.heap.size A' NN c' R := by subst hW; exact (by refine ⟨?_, ?_, ?_⟩ <;> first | (go_simp; done) | (go_simp <;> rfl) | go_size)
        obtain ⟨k0, k1, kz⟩ := id hK
        replace h3 := (hBW.block _ (by omega)).trans h3
        obtain ⟨v0, v1, v2, v3, vz⟩ := id (HV2.out.keep hBW)
        have b3 := b2.trans (hBW.mono b2.size)
        have HRZ := Lib.hid (HRZ2.out.keep hBW (Nat.le_refl _))
        have y3 := hBW.size
        clear hW hK hBW HV2 HRZ2
        have Lk0 := fun x : Later W.heap.size W => (x.cell kz).trans k0
        have Lv2 := fun x : Later W.heap.size W => (x.cell vz).trans v2
        have Lv3 := fun x : Later W.heap.size W => (x.cell vz).trans v3
        refine region_later W.heap.size (by kernel_rfl) (by kernel_rfl) ?_
        repeat (go_big_quiet_step (fail))
        refine wpQuiet_nil ?_
        intro x
        have hx := x.below
        generalize x.at = V at hx ⊢
        clear x Lk0 Lv2 Lv3
        replace h3 := (hx.block _ (by omega)).trans h3
        replace HRZ := Lib.hid (HRZ.out.keep hx (Nat.le_refl _))
        replace k0 := (hx.cell kz).trans k0
        replace k1 := (hx.cell kz).trans k1
        replace v0 := (hx.cell vz).trans v0
        replace v1 := (hx.cell vz).trans v1
        replace v2 := (hx.cell vz).trans v2
        replace v3 := (hx.cell vz).trans v3
        have bV := b3.trans (hx.mono b3.size)
        clear hx tg
        clear k0 k1
        -- V: the world, bV: its Below, 3: the errno
        have r0 : V.cell? ⟨w.heap.size + 1 + 1, 0, none⟩ = some (.slice none 0 0) := by rw [cell_row h3]; rfl
        have r1 : V.cell? ⟨w.heap.size + 1 + 1, 1, none⟩ = some (.int .i64 0) := by rw [cell_row h3]; rfl
        have r2 : V.cell? ⟨w.heap.size + 1 + 1, 2, none⟩ = some (.int .i64 0) := by rw [cell_row h3]; rfl
        have r3 : V.cell? ⟨w.heap.size + 1 + 1, 3, none⟩ = some (.int .i64 0) := by rw [cell_row h3]; rfl
        have q0 := frozen_of_row V (w.heap.size + 1 + 1) 0 _ _ h3
        have q1 := frozen_of_row V (w.heap.size + 1 + 1) 1 _ _ h3
        have q2 := frozen_of_row V (w.heap.size + 1 + 1) 2 _ _ h3
        have q3 := frozen_of_row V (w.heap.size + 1 + 1) 3 _ _ h3
        clear h3
        go_wp2
        refine bodyPost_ret (v := .tuple #[.agg #[.slice A L.length c, .int .i64 most, .int .i64 n, .int .i64 h], .int .i64 3]) (by simp [*, results, Tryz.results19, go_sem] <;> rfl) rfl ?_
        exact KEY.out _ ((bV).trans (((((Below.refl _ _).setCell (by simp; omega) _).setCell (by simp; omega) _).setCell (by simp; omega) _).setCell (by simp; omega) _))
      · have tg : decide (n < (NN : Int)) = false := decide_eq_false g1
        by_cases g2 : h < (U : Int)
        · have e1 : addE n h L p k = 3 := by rw [HE.out, HFB.out, decide_eq_true (by omega), decide_eq_false (by omega)]; rfl
          rw [e1, HQ'.out e1]
          have tg2 : decide (h < (U : Int)) = true := decide_eq_true g2
          clear e1 g1 g2
          go_enter Tryz.func19, Tryz.ntmps19
          go_wp2_with fail
          refine (CS.out _).mono ?_
          rintro e w1 ⟨rfl, hw1⟩
          have b1 : Below w.heap.size w w1 := below_of (by go_grown) hw1
          have hV : VBox w1 w.heap.size A L.length c most n h := VBox.keep (by refine ⟨?_, ?_, ?_, ?_, ?_⟩ <;> first | (go_simp; done) | (go_simp <;> rfl) | go_size) hw1
          have hP : PBox w1 (w.heap.size + 1) p := PBox.keep (by exact ⟨by go_simp <;> rfl, by go_simp <;> rfl, by go_simp <;> rfl, by go_simp <;> rfl, by go_simp <;> rfl, by go_simp <;> rfl, by go_simp <;> rfl, by go_simp <;> rfl, by go_size⟩) hw1
          have h3 : w1.heap[w.heap.size + 1 + 1]? = some (.cells #[.slice none 0 0, .int .i64 0, .int .i64 0, .int .i64 0] 35 (0, 0)) := (hw1.block (w.heap.size + 1 + 1) (by go_size)).trans (by repeat (first | (refine hp_new ?_; (simp; done)) | (refine hp_old ?_ ?_; · (first | (simp; done) | (simp; omega)))))
          have z3 := lt_of_block h3
          obtain ⟨v0, v1, v2, v3, vz⟩ := id hV
          clear hw1 CS
          obtain ⟨pa, pb, pc, pg, -, -, -, -, pz⟩ := id hP
          have HV := Lib.hid hV
          clear hV hP
          go_wp2_with fail
          refine (CP.out _ (HRD.out.keep b1 (Nat.le_refl _))).mono ?_
          rintro e w2 ⟨A', c', rfl, hrz, hG, hw2⟩
          have b2 := b1.trans (hw2.mono b1.size)
          have HG : Hid (∀ g off, A' = some ⟨g, off, none⟩ → Z ≠ [] → w1.heap.size ≤ g) := Lib.hid hG
          replace h3 := (hw2.block _ z3).trans h3
          have HV2 := Lib.hid (HV.out.keep hw2)
          have y2 := hw2.size
          have HRZ2 := Lib.hid hrz
          clear hrz hG hw2 HV pa pb pc pg pz v0 v1 v2 v3 vz CP
          go_upto_region 6 with fail
          generalize hW : World.alloc _ _ = W
          have hBW : Below w2.heap.size w2 W := by subst hW; go_grown
          have hK : KBox W w2.heap.size A' NN c' R := by subst hW; exact (by refine ⟨?_, ?_, ?_⟩ <;> first | (go_simp; done) | (go_simp <;> rfl) | go_size)
          obtain ⟨k0, k1, kz⟩ := id hK
          replace h3 := (hBW.block _ (by omega)).trans h3
          obtain ⟨v0, v1, v2, v3, vz⟩ := id (HV2.out.keep hBW)
          have b3 := b2.trans (hBW.mono b2.size)
          have HRZ := Lib.hid (HRZ2.out.keep hBW (Nat.le_refl _))
          have y3 := hBW.size
          clear hW hK hBW HV2 HRZ2
          have Lk0 := fun x : Later W.heap.size W => (x.cell kz).trans k0
          have Lv2 := fun x : Later W.heap.size W => (x.cell vz).trans v2
          have Lv3 := fun x : Later W.heap.size W => (x.cell vz).trans v3
          refine region_later W.heap.size (by kernel_rfl) (by kernel_rfl) ?_
          repeat (go_big_quiet_step ((go_at_call 49; exact later_of (Nat.le_refl _) (CH.out _ _ _ (HRZ.out.keep (Later.below _) (Nat.le_refl _))))))
          refine wpQuiet_nil ?_
          intro x
          have hx := x.below
          generalize x.at = V at hx ⊢
          clear x Lk0 Lv2 Lv3
          replace h3 := (hx.block _ (by omega)).trans h3
          replace HRZ := Lib.hid (HRZ.out.keep hx (Nat.le_refl _))
          replace k0 := (hx.cell kz).trans k0
          replace k1 := (hx.cell kz).trans k1
          replace v0 := (hx.cell vz).trans v0
          replace v1 := (hx.cell vz).trans v1
          replace v2 := (hx.cell vz).trans v2
          replace v3 := (hx.cell vz).trans v3
          have bV := b3.trans (hx.mono b3.size)
          clear hx tg
          clear k0 k1
          -- V: the world, bV: its Below, 3: the errno
          have r0 : V.cell? ⟨w.heap.size + 1 + 1, 0, none⟩ = some (.slice none 0 0) := by rw [cell_row h3]; rfl
          have r1 : V.cell? ⟨w.heap.size + 1 + 1, 1, none⟩ = some (.int .i64 0) := by rw [cell_row h3]; rfl
          have r2 : V.cell? ⟨w.heap.size + 1 + 1, 2, none⟩ = some (.int .i64 0) := by rw [cell_row h3]; rfl
          have r3 : V.cell? ⟨w.heap.size + 1 + 1, 3, none⟩ = some (.int .i64 0) := by rw [cell_row h3]; rfl
          have q0 := frozen_of_row V (w.heap.size + 1 + 1) 0 _ _ h3
          have q1 := frozen_of_row V (w.heap.size + 1 + 1) 1 _ _ h3
          have q2 := frozen_of_row V (w.heap.size + 1 + 1) 2 _ _ h3
          have q3 := frozen_of_row V (w.heap.size + 1 + 1) 3 _ _ h3
          clear h3
          go_wp2
          refine bodyPost_ret (v := .tuple #[.agg #[.slice A L.length c, .int .i64 most, .int .i64 n, .int .i64 h], .int .i64 3]) (by simp [*, results, Tryz.results19, go_sem] <;> rfl) rfl ?_
          exact KEY.out _ ((bV).trans (((((Below.refl _ _).setCell (by simp; omega) _).setCell (by simp; omega) _).setCell (by simp; omega) _).setCell (by simp; omega) _))
        · have e1 : addE n h L p k = 0 := by rw [HE.out, HFB.out, decide_eq_true (by omega), decide_eq_true (by omega)]; rfl
          rw [e1, HQ.out e1]
          have tg2 : decide (h < (U : Int)) = false := decide_eq_false g2
          clear e1 g1 g2 KEY
          go_enter Tryz.func19, Tryz.ntmps19
          go_wp2_with fail
          refine (CS.out _).mono ?_
          rintro e w1 ⟨rfl, hw1⟩
          have b1 : Below w.heap.size w w1 := below_of (by go_grown) hw1
          have hV : VBox w1 w.heap.size A L.length c most n h := VBox.keep (by refine ⟨?_, ?_, ?_, ?_, ?_⟩ <;> first | (go_simp; done) | (go_simp <;> rfl) | go_size) hw1
          have hP : PBox w1 (w.heap.size + 1) p := PBox.keep (by exact ⟨by go_simp <;> rfl, by go_simp <;> rfl, by go_simp <;> rfl, by go_simp <;> rfl, by go_simp <;> rfl, by go_simp <;> rfl, by go_simp <;> rfl, by go_simp <;> rfl, by go_size⟩) hw1
          have h3 : w1.heap[w.heap.size + 1 + 1]? = some (.cells #[.slice none 0 0, .int .i64 0, .int .i64 0, .int .i64 0] 35 (0, 0)) := (hw1.block (w.heap.size + 1 + 1) (by go_size)).trans (by repeat (first | (refine hp_new ?_; (simp; done)) | (refine hp_old ?_ ?_; · (first | (simp; done) | (simp; omega)))))
          have z3 := lt_of_block h3
          obtain ⟨v0, v1, v2, v3, vz⟩ := id hV
          clear hw1 CS
          obtain ⟨pa, pb, pc, pg, -, -, -, -, pz⟩ := id hP
          have HV := Lib.hid hV
          clear hV hP
          go_wp2_with fail
          refine (CP.out _ (HRD.out.keep b1 (Nat.le_refl _))).mono ?_
          rintro e w2 ⟨A', c', rfl, hrz, hG, hw2⟩
          have b2 := b1.trans (hw2.mono b1.size)
          have HG : Hid (∀ g off, A' = some ⟨g, off, none⟩ → Z ≠ [] → w1.heap.size ≤ g) := Lib.hid hG
          replace h3 := (hw2.block _ z3).trans h3
          have HV2 := Lib.hid (HV.out.keep hw2)
          have y2 := hw2.size
          have HRZ2 := Lib.hid hrz
          clear hrz hG hw2 HV pa pb pc pg pz v0 v1 v2 v3 vz CP
          go_upto_region 6 with fail
          generalize hW : World.alloc _ _ = W
          have hBW : Below w2.heap.size w2 W := by subst hW; go_grown
          have hK : KBox W w2.heap.size A' NN c' R := by subst hW; exact (by refine ⟨?_, ?_, ?_⟩ <;> first | (go_simp; done) | (go_simp <;> rfl) | go_size)
          obtain ⟨k0, k1, kz⟩ := id hK
          replace h3 := (hBW.block _ (by omega)).trans h3
          obtain ⟨v0, v1, v2, v3, vz⟩ := id (HV2.out.keep hBW)
          have b3 := b2.trans (hBW.mono b2.size)
          have HRZ := Lib.hid (HRZ2.out.keep hBW (Nat.le_refl _))
          have y3 := hBW.size
          clear hW hK hBW HV2 HRZ2
          have Lk0 := fun x : Later W.heap.size W => (x.cell kz).trans k0
          have Lv2 := fun x : Later W.heap.size W => (x.cell vz).trans v2
          have Lv3 := fun x : Later W.heap.size W => (x.cell vz).trans v3
          refine region_later W.heap.size (by kernel_rfl) (by kernel_rfl) ?_
          repeat (go_big_quiet_step ((go_at_call 49; exact later_of (Nat.le_refl _) (CH.out _ _ _ (HRZ.out.keep (Later.below _) (Nat.le_refl _))))))
          refine wpQuiet_nil ?_
          intro x
          have hx := x.below
          generalize x.at = V at hx ⊢
          clear x Lk0 Lv2 Lv3
          replace h3 := (hx.block _ (by omega)).trans h3
          replace HRZ := Lib.hid (HRZ.out.keep hx (Nat.le_refl _))
          replace k0 := (hx.cell kz).trans k0
          replace k1 := (hx.cell kz).trans k1
          replace v0 := (hx.cell vz).trans v0
          replace v1 := (hx.cell vz).trans v1
          replace v2 := (hx.cell vz).trans v2
          replace v3 := (hx.cell vz).trans v3
          have bV := b3.trans (hx.mono b3.size)
          clear hx tg
          have r0 : V.cell? ⟨w.heap.size + 1 + 1, 0, none⟩ = some (.slice none 0 0) := by rw [cell_row h3]; rfl
          have r1 : V.cell? ⟨w.heap.size + 1 + 1, 1, none⟩ = some (.int .i64 0) := by rw [cell_row h3]; rfl
          have r2 : V.cell? ⟨w.heap.size + 1 + 1, 2, none⟩ = some (.int .i64 0) := by rw [cell_row h3]; rfl
          have r3 : V.cell? ⟨w.heap.size + 1 + 1, 3, none⟩ = some (.int .i64 0) := by rw [cell_row h3]; rfl
          have q0 := frozen_of_row V (w.heap.size + 1 + 1) 0 _ _ h3
          have q1 := frozen_of_row V (w.heap.size + 1 + 1) 1 _ _ h3
          have q2 := frozen_of_row V (w.heap.size + 1 + 1) 2 _ _ h3
          have q3 := frozen_of_row V (w.heap.size + 1 + 1) 3 _ _ h3
          clear h3
          go_wp2
          refine bodyPost_ret (v := .tuple #[.agg #[.slice A' NN c', .int .i64 R, .int .i64 n, .int .i64 h], .int .i64 0]) (by simp [*, results, Tryz.results19, go_sem] <;> rfl) rfl ?_
          refine ⟨A', c', R, by rw [HNN.out], ?_, hRb, bV.trans (((((Below.refl _ _).setCell (by simp; omega) _).setCell (by simp; omega) _).setCell (by simp; omega) _).setCell (by simp; omega) _)⟩
          intro hne
          obtain ⟨g, off, e, hg, hc⟩ := HRZ.out hne
          have g1 := HG.out g off e hne
          have n2 : ¬ w.heap.size + 1 + 1 = g := by omega
          have n4 : ¬ g = w.heap.size + 1 + 1 := by omega
          refine ⟨g, off, e, by simpa using hg, fun i hi => ?_⟩
          obtain ⟨c0, c1, c2, c3, c4⟩ := hc i hi
          clear k0 k1 r0 r1 r2 r3 q0 q1 q2 q3 v0 v1 v2 v3
          refine ⟨?_, ?_, ?_, ?_, ?_⟩
          all_goals (go_simp; try assumption)
    · have e1 : addE n h L p k = 4 := by unfold addE; rw [if_pos hp, if_neg hk]
      have e2 : addQ n h L p k = L := by unfold addQ; rw [e1]; rfl
      rw [e1, e2]
      have KEY := Lib.hid (key 4)
      have HK := Lib.hid hk
      clear cs cp hps hpl hne hfb key hp e1 e2 hs hk
      by_cases h1 : k < 0
      · have hk1 : decide (k < 0) = true := decide_eq_true h1
        go_enter Tryz.func19, Tryz.ntmps19
        go_wp2_with fail
        refine (CS.out _).mono ?_
        rintro e w1 ⟨rfl, hw1⟩
        have b1 : Below w.heap.size w w1 := below_of (by go_grown) hw1
        have hV : VBox w1 w.heap.size A L.length c most n h := VBox.keep (by refine ⟨?_, ?_, ?_, ?_, ?_⟩ <;> first | (go_simp; done) | (go_simp <;> rfl) | go_size) hw1
        have hP : PBox w1 (w.heap.size + 1) p := PBox.keep (by exact ⟨by go_simp <;> rfl, by go_simp <;> rfl, by go_simp <;> rfl, by go_simp <;> rfl, by go_simp <;> rfl, by go_simp <;> rfl, by go_simp <;> rfl, by go_simp <;> rfl, by go_size⟩) hw1
        have h3 : w1.heap[w.heap.size + 1 + 1]? = some (.cells #[.slice none 0 0, .int .i64 0, .int .i64 0, .int .i64 0] 35 (0, 0)) := (hw1.block (w.heap.size + 1 + 1) (by go_size)).trans (by repeat (first | (refine hp_new ?_; (simp; done)) | (refine hp_old ?_ ?_; · (first | (simp; done) | (simp; omega)))))
        have z3 := lt_of_block h3
        obtain ⟨v0, v1, v2, v3, vz⟩ := id hV
        clear hw1 CS
        clear hV hP
        -- w1: the world, b1: its Below, 4: the errno
        have r0 : w1.cell? ⟨w.heap.size + 1 + 1, 0, none⟩ = some (.slice none 0 0) := by rw [cell_row h3]; rfl
        have r1 : w1.cell? ⟨w.heap.size + 1 + 1, 1, none⟩ = some (.int .i64 0) := by rw [cell_row h3]; rfl
        have r2 : w1.cell? ⟨w.heap.size + 1 + 1, 2, none⟩ = some (.int .i64 0) := by rw [cell_row h3]; rfl
        have r3 : w1.cell? ⟨w.heap.size + 1 + 1, 3, none⟩ = some (.int .i64 0) := by rw [cell_row h3]; rfl
        have q0 := frozen_of_row w1 (w.heap.size + 1 + 1) 0 _ _ h3
        have q1 := frozen_of_row w1 (w.heap.size + 1 + 1) 1 _ _ h3
        have q2 := frozen_of_row w1 (w.heap.size + 1 + 1) 2 _ _ h3
        have q3 := frozen_of_row w1 (w.heap.size + 1 + 1) 3 _ _ h3
        clear h3
        go_wp2
        refine bodyPost_ret (v := .tuple #[.agg #[.slice A L.length c, .int .i64 most, .int .i64 n, .int .i64 h], .int .i64 4]) (by simp [*, results, Tryz.results19, go_sem] <;> rfl) rfl ?_
        exact KEY.out _ ((b1).trans (((((Below.refl _ _).setCell (by simp; omega) _).setCell (by simp; omega) _).setCell (by simp; omega) _).setCell (by simp; omega) _))
      · have hk1 : decide (k < 0) = false := decide_eq_false h1
        have hk2 : decide (65535 < k) = true := decide_eq_true (by have := HK.out; omega)
        go_enter Tryz.func19, Tryz.ntmps19
        go_wp2_with fail
        refine (CS.out _).mono ?_
        rintro e w1 ⟨rfl, hw1⟩
        have b1 : Below w.heap.size w w1 := below_of (by go_grown) hw1
        have hV : VBox w1 w.heap.size A L.length c most n h := VBox.keep (by refine ⟨?_, ?_, ?_, ?_, ?_⟩ <;> first | (go_simp; done) | (go_simp <;> rfl) | go_size) hw1
        have hP : PBox w1 (w.heap.size + 1) p := PBox.keep (by exact ⟨by go_simp <;> rfl, by go_simp <;> rfl, by go_simp <;> rfl, by go_simp <;> rfl, by go_simp <;> rfl, by go_simp <;> rfl, by go_simp <;> rfl, by go_simp <;> rfl, by go_size⟩) hw1
        have h3 : w1.heap[w.heap.size + 1 + 1]? = some (.cells #[.slice none 0 0, .int .i64 0, .int .i64 0, .int .i64 0] 35 (0, 0)) := (hw1.block (w.heap.size + 1 + 1) (by go_size)).trans (by repeat (first | (refine hp_new ?_; (simp; done)) | (refine hp_old ?_ ?_; · (first | (simp; done) | (simp; omega)))))
        have z3 := lt_of_block h3
        obtain ⟨v0, v1, v2, v3, vz⟩ := id hV
        clear hw1 CS
        clear hV hP
        -- w1: the world, b1: its Below, 4: the errno
        have r0 : w1.cell? ⟨w.heap.size + 1 + 1, 0, none⟩ = some (.slice none 0 0) := by rw [cell_row h3]; rfl
        have r1 : w1.cell? ⟨w.heap.size + 1 + 1, 1, none⟩ = some (.int .i64 0) := by rw [cell_row h3]; rfl
        have r2 : w1.cell? ⟨w.heap.size + 1 + 1, 2, none⟩ = some (.int .i64 0) := by rw [cell_row h3]; rfl
        have r3 : w1.cell? ⟨w.heap.size + 1 + 1, 3, none⟩ = some (.int .i64 0) := by rw [cell_row h3]; rfl
        have q0 := frozen_of_row w1 (w.heap.size + 1 + 1) 0 _ _ h3
        have q1 := frozen_of_row w1 (w.heap.size + 1 + 1) 1 _ _ h3
        have q2 := frozen_of_row w1 (w.heap.size + 1 + 1) 2 _ _ h3
        have q3 := frozen_of_row w1 (w.heap.size + 1 + 1) 3 _ _ h3
        clear h3
        go_wp2
        refine bodyPost_ret (v := .tuple #[.agg #[.slice A L.length c, .int .i64 most, .int .i64 n, .int .i64 h], .int .i64 4]) (by simp [*, results, Tryz.results19, go_sem] <;> rfl) rfl ?_
        exact KEY.out _ ((b1).trans (((((Below.refl _ _).setCell (by simp; omega) _).setCell (by simp; omega) _).setCell (by simp; omega) _).setCell (by simp; omega) _))
end

end Go.Proofs.YtcbfppangiopeaaGreat
