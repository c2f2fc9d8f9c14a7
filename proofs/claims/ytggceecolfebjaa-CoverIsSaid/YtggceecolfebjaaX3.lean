/-
  What Put of the document's answer for layer 5 returns. Condition: the pairs lie where the argument says, in order.
-/
import Derived.Test.YtggceecolfebjaaX2
namespace Go.Proofs.Ytggceecolfebjaa
open Go.RowKit Go.Maps
set_option maxRecDepth 100000

/-- One step of what Put goes through: what is there so far, and whether the new one is. -/
def putStep (p : Pf) (v : Int) (s : List Pr × Bool) (x : Pr) : List Pr × Bool :=
  ((if 0 ≤ pcmp x.p p ∧ s.2 = false then s.1 ++ [⟨p, v⟩] else s.1) ++ (if pcmp x.p p = 0 then [] else [x]), s.2 || decide (0 ≤ pcmp x.p p))
def putF (p : Pf) (v : Int) (L : List Pr) (k : Nat) : List Pr × Bool := (L.take k).foldl (putStep p v) ([], false)
theorem putF_succ (p : Pf) (v : Int) (L : List Pr) {k : Nat} (h : k < L.length) : putF p v L (k + 1) = putStep p v (putF p v L k) L[k] := by
  unfold putF
  rw [List.take_succ_eq_append_getElem h, List.foldl_append]
  rfl
theorem putF_len (p : Pf) (v : Int) (L : List Pr) (k : Nat) : (putF p v L k).1.length ≤ 2 * k := by
  induction k with
  | zero => exact Nat.le_refl _
  | succ k ih =>
    by_cases h : k < L.length
    · rw [putF_succ p v L h]
      unfold putStep
      simp only [List.length_append]
      have h1 : (if 0 ≤ pcmp L[k].p p ∧ (putF p v L k).2 = false then (putF p v L k).1 ++ [⟨p, v⟩] else (putF p v L k).1).length ≤ (putF p v L k).1.length + 1 := by split <;> simp
      have h2 : (if pcmp L[k].p p = 0 then [] else [L[k]]).length ≤ 1 := by split <;> simp
      omega
    · have e : putF p v L (k + 1) = putF p v L k := by
        unfold putF
        rw [List.take_of_length_le (by omega), List.take_of_length_le (by omega)]
      rw [e]
      omega
theorem put_rest (p : Pf) (v : Int) : ∀ (l o : List Pr), (∀ y ∈ l, 0 < pcmp y.p p) → l.foldl (putStep p v) (o, true) = (o ++ l, true) := by
  intro l
  induction l with
  | nil => intro o _; simp
  | cons x l ih =>
    intro o h
    have hx := h x (List.mem_cons_self ..)
    rw [List.foldl_cons]
    have e : putStep p v (o, true) x = (o ++ [x], true) := by
      unfold putStep
      simp only [Bool.true_eq_false, and_false, if_false, Bool.true_or]
      rw [if_neg (by omega)]
    rw [e, ih _ (fun y hy => h y (List.mem_cons_of_mem _ hy))]
    simp
theorem put_go {p : Pf} (hp : psane p = true) (v : Int) : ∀ (l o : List Pr), Srt l → (if (l.foldl (putStep p v) (o, false)).2 = true then (l.foldl (putStep p v) (o, false)).1 else (l.foldl (putStep p v) (o, false)).1 ++ [⟨p, v⟩]) = o ++ putL p v l := by
  intro l
  induction l with
  | nil => intro o _; simp [putL]
  | cons x l ih =>
    intro o h
    obtain ⟨h1, h2, h3⟩ := srt_cons.1 h
    rw [List.foldl_cons]
    have bd := pcmp_bd x.p p
    rcases (show pcmp x.p p < 0 ∨ pcmp x.p p = 0 ∨ 0 < pcmp x.p p by omega) with c | c | c
    · have e : putStep p v (o, false) x = (o ++ [x], false) := by
        unfold putStep
        rw [if_neg (by omega), if_neg (by omega)]
        simp
        omega
      rw [e, ih _ h3, putL, if_pos c]
      simp
    · have hxp : x.p = p := (pcmp_eq h1 hp).1 c
      have e : putStep p v (o, false) x = (o ++ [⟨p, v⟩], true) := by
        unfold putStep
        rw [if_pos ⟨by omega, rfl⟩, if_pos c]
        simp
        omega
      have hr : ∀ y ∈ l, 0 < pcmp y.p p := fun y hy => by
        have := h2 y hy
        rw [hxp] at this
        have := pcmp_anti p y.p
        omega
      rw [e, put_rest p v l _ hr, if_pos rfl, putL, if_neg (by omega), if_pos c]
      simp
    · have e : putStep p v (o, false) x = (o ++ [⟨p, v⟩] ++ [x], true) := by
        unfold putStep
        rw [if_pos ⟨by omega, rfl⟩, if_neg (by omega)]
        simp
        omega
      have hr : ∀ y ∈ l, 0 < pcmp y.p p := fun y hy => by
        have g1 := h2 y hy
        have g2 := pcmp_anti x.p p
        have g3 := pcmp_lt_trans hp (h3.1 y hy) (show pcmp p x.p < 0 by omega) g1
        have g4 := pcmp_anti p y.p
        omega
      rw [e, put_rest p v l _ hr, if_pos rfl, putL, if_neg (by omega), if_neg (by omega)]
      simp
theorem putF_all {p : Pf} {L : List Pr} (hp : psane p = true) (h : Srt L) (v : Int) : (if (putF p v L L.length).2 = true then (putF p v L L.length).1 else (putF p v L L.length).1 ++ [⟨p, v⟩]) = putL p v L := by
  have := put_go hp v L [] h
  unfold putF
  rw [List.take_length]
  simpa using this

section
variable {w : World} {A : Option Addr} {c : Nat} {L : List Pr}
set_option maxHeartbeats 2000000 in
theorem kput_no (most : Int) (p : Pf) (v : Int) (hp : psane p = false) : Calls Try.prog 50 #[.agg #[.slice A L.length c, .int .i64 most], .agg #[.int .u64 (u p.a.hi), .int .u64 (u p.a.lo), .bool p.a.v6, .int .i64 p.n], .int .i64 v] w fun e w' => e = .returned (.tuple #[.agg #[.slice A L.length c, .int .i64 most], .int .i64 1]) ∧ Below w.heap.size w w' := by
  have cs := rpsane_any p
  rw [hp] at cs
  have CS := Lib.hid cs
  clear cs hp
  go_enter Try.func50, Try.ntmps50
  go_wp2_with fail
  refine (CS.out _).mono ?_
  rintro e w1 ⟨rfl, hw1⟩
  have b1 : Below w.heap.size w w1 := below_of (by go_grown) hw1
  have hK : KBox w1 w.heap.size A L.length c most := KBox.keep (by refine ⟨?_, ?_, ?_⟩ <;> first | (go_simp; done) | (go_simp <;> rfl) | go_size) hw1
  have h3 : w1.heap[w.heap.size + 1 + 1]? = some (.cells #[.slice none 0 0, .int .i64 0] 33 (0, 0)) := (hw1.block (w.heap.size + 1 + 1) (by go_size)).trans (by repeat (first | (refine hp_new ?_; (simp; done)) | (refine hp_old ?_ ?_; · (first | (simp; done) | (simp; omega)))))
  obtain ⟨t0, t1, tz⟩ := id hK
  have r0 : w1.cell? ⟨w.heap.size + 1 + 1, 0, none⟩ = some (.slice none 0 0) := by rw [cell_row h3]; rfl
  have r1 : w1.cell? ⟨w.heap.size + 1 + 1, 1, none⟩ = some (.int .i64 0) := by rw [cell_row h3]; rfl
  have q0 := frozen_of_row w1 (w.heap.size + 1 + 1) 0 _ _ h3
  have q1 := frozen_of_row w1 (w.heap.size + 1 + 1) 1 _ _ h3
  clear hw1 hK h3
  go_wp2
  refine bodyPost_ret (v := .tuple #[.agg #[.slice A L.length c, .int .i64 most], .int .i64 1]) (by simp [*, results, Try.results50, go_sem] <;> rfl) rfl ⟨rfl, ?_⟩
  exact b1.trans (((Below.refl _ _).setCell (by simp; omega) _).setCell (by simp; omega) _)

set_option maxHeartbeats 8000000 in
theorem kput_yes (hr : RdQ w A L) (hs : Srt L) (hl : L.length ≤ 10000) (most : Int) (_ : 0 ≤ most ∧ most ≤ 1000000000) (p : Pf) (v : Int) (hp : psane p = true) : Calls Try.prog 50 #[.agg #[.slice A L.length c, .int .i64 most], .agg #[.int .u64 (u p.a.hi), .int .u64 (u p.a.lo), .bool p.a.v6, .int .i64 p.n], .int .i64 v] w fun e w' => ∃ A' c', e = .returned (.tuple #[.agg #[.slice A' (putL p v L).length c', .int .i64 (max most (nodesL (putL p v L)))], .int .i64 0]) ∧ RdQ w' A' (putL p v L) ∧ (∀ g off, A' = some ⟨g, off, none⟩ → putL p v L ≠ [] → w.heap.size ≤ g) ∧ Below w.heap.size w w' := by
  have HRD := Lib.hid hr
  have cs := rpsane_any p
  rw [hp] at cs
  have CS := Lib.hid cs
  have hall := putF_all hp hs v
  have hsp := put_srt (v := v) hs hp
  have hpl := put_len (v := v) hs hp
  have hpl2 : (putL p v L).length ≤ 10001 := by rw [hpl]; split <;> omega
  obtain ⟨Z, hZ⟩ : ∃ Z, putL p v L = Z := ⟨_, rfl⟩
  rw [hZ] at hall hsp hpl2 ⊢
  have HALL := Lib.hid hall
  have HSP := Lib.hid hsp
  clear hr hs hp cs hall hsp hpl hZ
  go_enter Try.func50, Try.ntmps50
  go_wp2_with fail
  refine (CS.out _).mono ?_
  rintro e w1 ⟨rfl, hw1⟩
  have b1 : Below w.heap.size w w1 := below_of (by go_grown) hw1
  have hK : KBox w1 w.heap.size A L.length c most := KBox.keep (by refine ⟨?_, ?_, ?_⟩ <;> first | (go_simp; done) | (go_simp <;> rfl) | go_size) hw1
  have hP : PBox w1 (w.heap.size + 1) p := PBox.keep (by exact ⟨by go_simp <;> rfl, by go_simp <;> rfl, by go_simp <;> rfl, by go_simp <;> rfl, by go_simp <;> rfl, by go_simp <;> rfl, by go_simp <;> rfl, by go_simp <;> rfl, by go_size⟩) hw1
  have h3 : w1.heap[w.heap.size + 1 + 1]? = some (.cells #[.slice none 0 0, .int .i64 0] 33 (0, 0)) := (hw1.block (w.heap.size + 1 + 1) (by go_size)).trans (by repeat (first | (refine hp_new ?_; (simp; done)) | (refine hp_old ?_ ?_; · (first | (simp; done) | (simp; omega)))))
  have HK := Lib.hid hK
  have HP := Lib.hid hP
  have H3 := Lib.hid h3
  have z3 := lt_of_block h3
  have z1 := b1.size
  clear hw1 hK hP h3 CS
  go_wp2_with fail
  go_loopw [8, 9, 10] (fun o b i wr => ∃ k N : Nat, k ≤ L.length ∧ i = .int .i64 k ∧ N = (putF p v L k).1.length ∧ b = .bool (putF p v L k).2 ∧ wr.ownsRow w1.heap.size 127 5 o N (prv (putF p v L k).1) ∧ Below w1.heap.size w1 wr) (fun _ _ i _ => L.length - (RowKit.intOf i).toNat)
  case atStart => exact ⟨0, 0, Nat.zero_le _, rfl, rfl, rfl, World.ownsRow_nil _ _ _ _, Below.refl _ _⟩
  case round =>
    obtain ⟨k, N, hk, rfl, hN, rfl, hown, hBj⟩ := hrel
    have hB := b1.trans (hBj.mono z1)
    have HO := Lib.hid hown
    have hN9 : N ≤ 20000 := by
      have h1 := putF_len p v L k
      omega
    obtain ⟨A2, c2, rfl, -⟩ := own_val hown
    have zr := hBj.size
    by_cases hlt : k < L.length
    · obtain ⟨t0, t1, tz⟩ := id (HK.out.keep hBj)
      obtain ⟨pa, pb, pc, pg, -, -, -, -, pz⟩ := id (HP.out.keep hBj)
      -- HRD: the fact RdQ at w, L: the list; k, hlt, hB : Below w.heap.size w wr. The cells of the k-th in wr: d0 .. d4
      obtain ⟨g, off, rfl, hg, hc⟩ := HRD.out (by intro e; rw [e] at hlt; cases hlt)
      obtain ⟨c0, c1, c2, c3, c4⟩ := hc k hlt
      have d0 := (hB.cell (p := ⟨g, off + k * 5, none⟩) hg).trans c0
      have d1 := (hB.cell (p := ⟨g, off + k * 5 + 1, none⟩) hg).trans c1
      have d2 := (hB.cell (p := ⟨g, off + k * 5 + 2, none⟩) hg).trans c2
      have d3 := (hB.cell (p := ⟨g, off + k * 5 + 3, none⟩) hg).trans c3
      have d4 := (hB.cell (p := ⟨g, off + k * 5 + 4, none⟩) hg).trans c4
      have gz : g < wr.heap.size := Nat.lt_of_lt_of_le hg hB.size
      clear c0 c1 c2 c3 c4 hc
      have hsc := putF_succ p v L hlt
      obtain ⟨y, hy⟩ : ∃ y, L[k] = y := ⟨_, rfl⟩
      unfold putStep at hsc
      obtain ⟨o, ho⟩ : ∃ o, (putF p v L k).1 = o := ⟨_, rfl⟩
      obtain ⟨bb, hb⟩ : ∃ bb, (putF p v L k).2 = bb := ⟨_, rfl⟩
      rw [hy] at d0 d1 d2 d3 d4 hsc
      rw [ho] at hsc hN HO
      rw [hb] at hsc ⊢
      have hN' : N = o.length := hN
      have HO' : Hid (wr.ownsRow w1.heap.size 127 5 (.slice A2 N c2) N (prv o)) := Lib.hid HO.out
      have bd := pcmp_bd y.p p
      have cc := rpcmp_any y.p p
      obtain ⟨cv, hcv⟩ : ∃ cv, pcmp y.p p = cv := ⟨_, rfl⟩
      rw [hcv] at hsc bd cc
      have HSC := Lib.hid hsc
      have CC := Lib.hid cc
      have HN := Lib.hid hN'
      clear hsc cc hcv hy ho hb hN hN' HO hown HK HP H3 t1
      obtain ⟨W, rfl⟩ : ∃ W, W = wr := ⟨_, rfl⟩
      have Ld0 := fun x : Later W.heap.size W => (x.cell (p := ⟨g, off + k * 5, none⟩) gz).trans d0
      have Ld1 := fun x : Later W.heap.size W => (x.cell (p := ⟨g, off + k * 5 + 1, none⟩) gz).trans d1
      have Ld2 := fun x : Later W.heap.size W => (x.cell (p := ⟨g, off + k * 5 + 2, none⟩) gz).trans d2
      have Ld3 := fun x : Later W.heap.size W => (x.cell (p := ⟨g, off + k * 5 + 3, none⟩) gz).trans d3
      have Ld4 := fun x : Later W.heap.size W => (x.cell (p := ⟨g, off + k * 5 + 4, none⟩) gz).trans d4
      have Lt0 := fun x : Later W.heap.size W => (x.cell tz).trans t0
      have Lpa := fun x : Later W.heap.size W => (x.cell pz).trans pa
      have Lpb := fun x : Later W.heap.size W => (x.cell pz).trans pb
      have Lpc := fun x : Later W.heap.size W => (x.cell pz).trans pc
      have Lpg := fun x : Later W.heap.size W => (x.cell pz).trans pg
      go_wp2_with fail
      refine region_later W.heap.size (by kernel_rfl) (by kernel_rfl) ?_
      repeat (go_big_quiet_step ((go_at_call 77; exact later_of (Nat.le_refl _) (CC.out _))))
      refine wpQuiet_nil ?_
      intro x
      have hx := x.below
      generalize x.at = V at hx ⊢
      clear x Ld0 Ld1 Ld2 Ld3 Ld4 Lt0 Lpa Lpb Lpc Lpg
      have bV := hBj.trans (hx.mono hBj.size)
      have HOV := Lib.hid (own_fresh HO'.out hx)
      have zV := bV.size
      replace d0 := (hx.cell (p := ⟨g, off + k * 5, none⟩) gz).trans d0
      replace d1 := (hx.cell (p := ⟨g, off + k * 5 + 1, none⟩) gz).trans d1
      replace d2 := (hx.cell (p := ⟨g, off + k * 5 + 2, none⟩) gz).trans d2
      replace d3 := (hx.cell (p := ⟨g, off + k * 5 + 3, none⟩) gz).trans d3
      replace d4 := (hx.cell (p := ⟨g, off + k * 5 + 4, none⟩) gz).trans d4
      replace t0 := (hx.cell tz).trans t0
      replace pa := (hx.cell pz).trans pa
      replace pb := (hx.cell pz).trans pb
      replace pc := (hx.cell pz).trans pc
      replace pg := (hx.cell pz).trans pg
      clear hx HO' CC
      rcases (show cv = -1 ∨ cv = 0 ∨ cv = 1 by omega) with hcv | hcv | hcv
      · subst hcv
        clear bd
        obtain ⟨HS1, HS2⟩ : Hid ((putF p v L (k + 1)).1 = o ++ [y]) ∧ Hid ((putF p v L (k + 1)).2 = bb) := ⟨Lib.hid (by rw [HSC.out]; simp), Lib.hid (by rw [HSC.out]; simp)⟩
        clear HSC pa pb pc pg
        go_wp2_with (
          at_builtin
          refine wpList_five1 five_ref rfl (.tmp 46) (.tmp 52) rfl w1.heap.size _ N o HN.out (by rfl) (HOV.out.alloc _) V.heap.size y (by rfl) (heap_alloc_new V _) (by omega) (by simp; omega) ?_
          intro v2 w2 ho2 hb2
          have b2 : Below w1.heap.size w1 w2 := bV.trans (Below.trans (by go_grown) hb2)
          have HO2 := Lib.hid ho2
          obtain ⟨A5, c5, rfl, -⟩ := own_val ho2
          clear ho2 hb2
          try clear d0 d1 d2 d3 d4
          try clear t0
          try clear pa pb pc pg
          try clear zV
          )
        go_roundw
        case rel => exact ⟨k + 1, N + 1, by omega, by go_num, by rw [HS1.out, List.length_append, ← HN.out]; rfl, by rw [HS2.out], by rw [HS1.out]; exact HO2.out, b2⟩
        case measure => simp [RowKit.intOf]; omega
      · subst hcv
        clear bd
        cases bb
        · obtain ⟨HS1, HS2⟩ : Hid ((putF p v L (k + 1)).1 = o ++ [⟨p, v⟩]) ∧ Hid ((putF p v L (k + 1)).2 = true) := ⟨Lib.hid (by rw [HSC.out]; simp), Lib.hid (by rw [HSC.out]; simp)⟩
          clear HSC d0 d1 d2 d3 d4 t0
          go_wp2_with (
            at_builtin
            refine wpList_five1 five_ref rfl (.tmp 38) (.tmp 42) rfl w1.heap.size _ N o HN.out (by rfl) (HOV.out.alloc _) V.heap.size ⟨p, v⟩ (by rfl) (heap_alloc_new V _) (by omega) (by simp; omega) ?_
            intro v2 w2 ho2 hb2
            have b2 : Below w1.heap.size w1 w2 := bV.trans (Below.trans (by go_grown) hb2)
            have HO2 := Lib.hid ho2
            obtain ⟨A5, c5, rfl, -⟩ := own_val ho2
            clear ho2 hb2
            try clear d0 d1 d2 d3 d4
            try clear t0
            try clear pa pb pc pg
            try clear zV
            )
          go_roundw
          case rel => exact ⟨k + 1, N + 1, by omega, by go_num, by rw [HS1.out, List.length_append, ← HN.out]; rfl, by rw [HS2.out], by rw [HS1.out]; exact HO2.out, b2⟩
          case measure => simp [RowKit.intOf]; omega
        · obtain ⟨HS1, HS2⟩ : Hid ((putF p v L (k + 1)).1 = o) ∧ Hid ((putF p v L (k + 1)).2 = true) := ⟨Lib.hid (by rw [HSC.out]; simp), Lib.hid (by rw [HSC.out]; simp)⟩
          clear HSC d0 d1 d2 d3 d4 t0 pa pb pc pg
          go_wp2
          go_roundw
          case rel => exact ⟨k + 1, N, by omega, by go_num, by rw [HS1.out]; exact HN.out, by rw [HS2.out], by rw [HS1.out]; exact HOV.out, bV⟩
          case measure => simp [RowKit.intOf]; omega
      · subst hcv
        clear bd
        cases bb
        · obtain ⟨HS1, HS2⟩ : Hid ((putF p v L (k + 1)).1 = o ++ [⟨p, v⟩] ++ [y]) ∧ Hid ((putF p v L (k + 1)).2 = true) := ⟨Lib.hid (by rw [HSC.out]; simp), Lib.hid (by rw [HSC.out]; simp)⟩
          clear HSC
          go_upto_region 12 with (
            at_builtin
            refine wpList_five1 five_ref rfl (.tmp 38) (.tmp 42) rfl w1.heap.size _ N o HN.out (by rfl) (HOV.out.alloc _) V.heap.size ⟨p, v⟩ (by rfl) (heap_alloc_new V _) (by omega) (by simp; omega) ?_
            intro v2 w2 ho2 hb2
            have hv2 : Below w1.heap.size V w2 := Below.trans (by go_grown) hb2
            have b2 : Below w1.heap.size w1 w2 := bV.trans hv2
            have HO2 := Lib.hid ho2
            obtain ⟨A5, c5, rfl, -⟩ := own_val ho2
            clear ho2 hb2
            )
          replace d0 := (hv2.cell (p := ⟨g, off + k * 5, none⟩) (by show g < _; omega)).trans d0
          replace d1 := (hv2.cell (p := ⟨g, off + k * 5 + 1, none⟩) (by show g < _; omega)).trans d1
          replace d2 := (hv2.cell (p := ⟨g, off + k * 5 + 2, none⟩) (by show g < _; omega)).trans d2
          replace d3 := (hv2.cell (p := ⟨g, off + k * 5 + 3, none⟩) (by show g < _; omega)).trans d3
          replace d4 := (hv2.cell (p := ⟨g, off + k * 5 + 4, none⟩) (by show g < _; omega)).trans d4
          replace t0 := (hv2.cell (p := ⟨w.heap.size, 0, none⟩) (by show w.heap.size < _; omega)).trans t0
          have zw2 := b2.size
          clear hv2 pa pb pc pg HOV
          go_wp2_with (
            at_builtin
            refine wpList_five1 five_ref rfl (.tmp 46) (.tmp 52) rfl w1.heap.size _ (N + 1) (o ++ [⟨p, v⟩]) (by rw [List.length_append, ← HN.out]; rfl) (by rfl) (HO2.out.alloc _) w2.heap.size y (by rfl) (heap_alloc_new w2 _) (by omega) (by simp; omega) ?_
            intro v3 w3 ho3 hb3
            have b3 : Below w1.heap.size w1 w3 := b2.trans (Below.trans (by go_grown) hb3)
            have HO3 := Lib.hid ho3
            obtain ⟨A6, c6, rfl, -⟩ := own_val ho3
            clear ho3 hb3
            try clear d0 d1 d2 d3 d4
            try clear t0
            try clear zw2
            try clear zV
            )
          go_roundw
          case rel => exact ⟨k + 1, N + 1 + 1, by omega, by go_num, by rw [HS1.out, List.length_append, List.length_append, ← HN.out]; rfl, by rw [HS2.out], by rw [HS1.out]; exact HO3.out, b3⟩
          case measure => simp [RowKit.intOf]; omega
        · obtain ⟨HS1, HS2⟩ : Hid ((putF p v L (k + 1)).1 = o ++ [y]) ∧ Hid ((putF p v L (k + 1)).2 = true) := ⟨Lib.hid (by rw [HSC.out]; simp), Lib.hid (by rw [HSC.out]; simp)⟩
          clear HSC pa pb pc pg
          go_wp2_with (
            at_builtin
            refine wpList_five1 five_ref rfl (.tmp 46) (.tmp 52) rfl w1.heap.size _ N o HN.out (by rfl) (HOV.out.alloc _) V.heap.size y (by rfl) (heap_alloc_new V _) (by omega) (by simp; omega) ?_
            intro v2 w2 ho2 hb2
            have b2 : Below w1.heap.size w1 w2 := bV.trans (Below.trans (by go_grown) hb2)
            have HO2 := Lib.hid ho2
            obtain ⟨A5, c5, rfl, -⟩ := own_val ho2
            clear ho2 hb2
            try clear d0 d1 d2 d3 d4
            try clear t0
            try clear pa pb pc pg
            try clear zV
            )
          go_roundw
          case rel => exact ⟨k + 1, N + 1, by omega, by go_num, by rw [HS1.out, List.length_append, ← HN.out]; rfl, by rw [HS2.out], by rw [HS1.out]; exact HO2.out, b2⟩
          case measure => simp [RowKit.intOf]; omega
    · obtain rfl : k = L.length := by omega
      have kt : decide ((L.length : Int) < (L.length : Int)) = false := by simp
      obtain ⟨o, ho⟩ : ∃ o, (putF p v L L.length).1 = o := ⟨_, rfl⟩
      obtain ⟨bb, hb⟩ : ∃ bb, (putF p v L L.length).2 = bb := ⟨_, rfl⟩
      have hal := HALL.out
      rw [ho] at hN hal HO
      rw [hb] at hal ⊢
      have hN' : N = o.length := hN
      have HO' : Hid (wr.ownsRow w1.heap.size 127 5 (.slice A2 N c2) N (prv o)) := Lib.hid HO.out
      have HN := Lib.hid hN'
      obtain ⟨t0, t1, tz⟩ := id (HK.out.keep hBj)
      clear ho hb hN hN' HO hown HALL HRD
      cases bb
      · have hZ : o ++ [⟨p, v⟩] = Z := by simpa using hal
        obtain ⟨pa, pb, pc, pg, -, -, -, -, pz⟩ := id (HP.out.keep hBj)
        have hlen : N + 1 = Z.length := by rw [← hZ, List.length_append, ← HN.out]; rfl
        have HZ := Lib.hid hZ
        have HLEN := Lib.hid hlen
        clear hal hZ hlen t1
        go_upto_region 16 with (
          at_builtin
          refine wpList_five1 five_ref rfl (.tmp 56) (.tmp 60) rfl w1.heap.size _ N o HN.out (by rfl) (HO'.out.alloc _) wr.heap.size ⟨p, v⟩ (by rfl) (heap_alloc_new wr _) (by omega) (by simp; omega) ?_
          intro v2 w2 ho2 hb2
          have b2 : Below w1.heap.size w1 w2 := hBj.trans (Below.trans (by go_grown) hb2)
          have HO2 := Lib.hid ho2
          obtain ⟨A5, c5, rfl, -⟩ := own_val ho2
          clear ho2 hb2
          try clear d0 d1 d2 d3 d4
          try clear t0
          try clear pa pb pc pg
          try clear zV
          )
        have hz2 : w2.ownsRow w1.heap.size 127 5 (.slice A5 (N + 1) c5) (N + 1) (prv Z) := by rw [← HZ.out]; exact HO2.out
        clear HO2 HO' HN HZ
        obtain ⟨NN, hNN⟩ : ∃ NN, N + 1 = NN := ⟨_, rfl⟩
        rw [hNN] at hz2 HLEN ⊢
        clear hNN
        -- w2: the world, A5, c5: where the new pairs lie, b2: Below w1.heap.size w1 w2; hz2, HLEN : NN = Z.length
        have zz := (b2).size
        obtain ⟨t0, t1, tz⟩ := id (HK.out.keep b2)
        have h3 := ((b2).block _ z3).trans H3.out
        have bw := b1.trans ((b2).mono z1)
        have hz3 := hz2
        rw [HLEN.out] at hz3
        obtain ⟨A8, c8, e8, hrz⟩ := own_rdq hz3
        simp only [Value.slice.injEq, true_and] at e8
        obtain ⟨rfl, rfl⟩ := e8
        have HRZ := Lib.hid hrz
        have hnb := nodes_bd Z HSP.out.1
        have cn : ∀ W, RdQ W A5 Z → Calls Try.prog 78 #[.agg #[.slice A5 NN c5, .int .i64 most]] W fun e w' => e = .returned (.int .i64 (nodesL Z)) ∧ Below W.heap.size W w' := fun W hr => by
          have := knodes_any (c := c5) hr HSP.out.1 (by omega) most
          rw [← HLEN.out] at this
          exact this
        have CN := Lib.hid cn
        have hG : ∀ g off, A5 = some ⟨g, off, none⟩ → Z ≠ [] → w1.heap.size ≤ g ∧ g < (w2).heap.size := fun g off e hn => by
          obtain ⟨g', c', e', h1, h2, -⟩ := row_cell hz3 rfl (List.length_pos_iff.2 hn)
          rw [e] at e'
          simp only [Value.slice.injEq, Option.some.injEq, Addr.mk.injEq] at e'
          obtain ⟨⟨rfl, -, -⟩, -⟩ := e'
          exact ⟨h1, h2⟩
        have HG := Lib.hid hG
        clear hz2 hz3 hrz cn hG
        obtain ⟨R, hR⟩ : ∃ R, nodesL Z = R := ⟨_, rfl⟩
        rw [hR] at hnb CN
        have HR := Lib.hid hR
        have hRb : 2 ≤ R ∧ R ≤ 10000000 := by omega
        clear hR hnb
        go_upto_region 17 with fail
        generalize hW : World.alloc _ _ = W
        have hBW : Below (w2).heap.size w2 W := by subst hW; go_grown
        have hB3 : W.heap[(w2).heap.size]? = some (.cells #[.slice A5 NN c5, .int .i64 most] 33 (0, 0)) := by subst hW; repeat (first | (refine hp_new ?_; (simp; done)) | (refine hp_old ?_ ?_; · (first | (simp; done) | (simp; omega))))
        have zW := lt_of_block hB3
        have k0 : W.cell? ⟨(w2).heap.size, 0, none⟩ = some (.slice A5 NN c5) := by rw [cell_row hB3]; rfl
        have k1 : W.cell? ⟨(w2).heap.size, 1, none⟩ = some (.int .i64 most) := by rw [cell_row hB3]; rfl
        replace h3 := (hBW.block _ (by omega)).trans h3
        replace bw := bw.trans (hBW.mono bw.size)
        replace HRZ := Lib.hid (HRZ.out.keep hBW (Nat.le_refl _))
        clear hW hBW t0 t1 tz
        have Lk0 := fun x : Later W.heap.size W => (x.cell zW).trans k0
        have Lk1 := fun x : Later W.heap.size W => (x.cell zW).trans k1
        by_cases hmx : most < R
        · have HMX : Hid (max most R = R) := Lib.hid (by omega)
          refine region_tail 6 W.heap.size (by kernel_rfl) (by kernel_rfl) ?_
          simp only [List.take_succ_cons, List.take_zero, List.drop_succ_cons, List.drop_zero]
          repeat (go_big_quiet_step ((go_at_call 78; exact later_of (Nat.le_refl _) (CN.out _ (HRZ.out.keep (Later.below _) (Nat.le_refl _))))))
          refine wpQuiet_nil ?_
          intro x
          have hx := x.below
          generalize x.at = V at hx ⊢
          clear x Lk0 Lk1 k0 k1
          have hV3 := (hx.block _ zW).trans hB3
          replace h3 := (hx.block _ (by omega)).trans h3
          replace bw := bw.trans (hx.mono bw.size)
          replace HRZ := Lib.hid (HRZ.out.keep hx (Nat.le_refl _))
          have zV := hx.size
          clear hx hB3 CN
          have k0 : V.cell? ⟨(w2).heap.size, 0, none⟩ = some (.slice A5 NN c5) := by rw [cell_row hV3]; rfl
          have k1 : V.cell? ⟨(w2).heap.size, 1, none⟩ = some (.int .i64 most) := by rw [cell_row hV3]; rfl
          have f0 := frozen_of_row V ((w2).heap.size) 0 _ _ hV3
          have f1 := frozen_of_row V ((w2).heap.size) 1 _ _ hV3
          have r0 : V.cell? ⟨w.heap.size + 1 + 1, 0, none⟩ = some (.slice none 0 0) := by rw [cell_row h3]; rfl
          have r1 : V.cell? ⟨w.heap.size + 1 + 1, 1, none⟩ = some (.int .i64 0) := by rw [cell_row h3]; rfl
          have q0 := frozen_of_row V (w.heap.size + 1 + 1) 0 _ _ h3
          have q1 := frozen_of_row V (w.heap.size + 1 + 1) 1 _ _ h3
          have nn : ¬ w.heap.size + 1 + 1 = (w2).heap.size := by omega
          have nn2 : ¬ (w2).heap.size = w.heap.size + 1 + 1 := by omega
          clear hV3 h3
          go_wp2
          refine bodyPost_ret (v := .tuple #[.agg #[.slice A5 NN c5, .int .i64 R], .int .i64 0]) (by simp [*, results, Try.results50, go_sem] <;> rfl) rfl ?_
          first
            | refine ⟨A5, c5, ?_, ?_, ?_, ?_⟩
            | refine ⟨A5, ⟨c5, ?_⟩, ?_, ?_, ?_⟩
          · rw [← HLEN.out, HR.out, HMX.out]
          · intro hne
            obtain ⟨g, off, e, hg, hc⟩ := HRZ.out hne
            obtain ⟨g1, g2⟩ := HG.out g off e hne
            have n1 : ¬ (w2).heap.size = g := by omega
            have n2 : ¬ w.heap.size + 1 + 1 = g := by omega
            have n3 : ¬ g = (w2).heap.size := by omega
            have n4 : ¬ g = w.heap.size + 1 + 1 := by omega
            refine ⟨g, off, e, by simpa using hg, fun i hi => ?_⟩
            obtain ⟨c0, c1, c2, c3, c4⟩ := hc i hi
            clear k0 k1 f0 f1 r0 r1 q0 q1
            refine ⟨?_, ?_, ?_, ?_, ?_⟩
            all_goals (go_simp; try assumption)
          · intro g off e hne
            have g1 := (HG.out g off e hne).1
            omega
          · exact bw.trans (((((Below.refl _ _).setCell (by first | (simp; done) | (simp; omega) | omega) _).setCell (by first | (simp; done) | (simp; omega) | omega) _).setCell (by first | (simp; done) | (simp; omega) | omega) _))
        · have HMX : Hid (max most R = most) := Lib.hid (by omega)
          refine region_tail 6 W.heap.size (by kernel_rfl) (by kernel_rfl) ?_
          simp only [List.take_succ_cons, List.take_zero, List.drop_succ_cons, List.drop_zero]
          repeat (go_big_quiet_step ((go_at_call 78; exact later_of (Nat.le_refl _) (CN.out _ (HRZ.out.keep (Later.below _) (Nat.le_refl _))))))
          refine wpQuiet_nil ?_
          intro x
          have hx := x.below
          generalize x.at = V at hx ⊢
          clear x Lk0 Lk1 k0 k1
          have hV3 := (hx.block _ zW).trans hB3
          replace h3 := (hx.block _ (by omega)).trans h3
          replace bw := bw.trans (hx.mono bw.size)
          replace HRZ := Lib.hid (HRZ.out.keep hx (Nat.le_refl _))
          have zV := hx.size
          clear hx hB3 CN
          have k0 : V.cell? ⟨(w2).heap.size, 0, none⟩ = some (.slice A5 NN c5) := by rw [cell_row hV3]; rfl
          have k1 : V.cell? ⟨(w2).heap.size, 1, none⟩ = some (.int .i64 most) := by rw [cell_row hV3]; rfl
          have f0 := frozen_of_row V ((w2).heap.size) 0 _ _ hV3
          have f1 := frozen_of_row V ((w2).heap.size) 1 _ _ hV3
          have r0 : V.cell? ⟨w.heap.size + 1 + 1, 0, none⟩ = some (.slice none 0 0) := by rw [cell_row h3]; rfl
          have r1 : V.cell? ⟨w.heap.size + 1 + 1, 1, none⟩ = some (.int .i64 0) := by rw [cell_row h3]; rfl
          have q0 := frozen_of_row V (w.heap.size + 1 + 1) 0 _ _ h3
          have q1 := frozen_of_row V (w.heap.size + 1 + 1) 1 _ _ h3
          have nn : ¬ w.heap.size + 1 + 1 = (w2).heap.size := by omega
          have nn2 : ¬ (w2).heap.size = w.heap.size + 1 + 1 := by omega
          clear hV3 h3
          go_wp2
          refine bodyPost_ret (v := .tuple #[.agg #[.slice A5 NN c5, .int .i64 most], .int .i64 0]) (by simp [*, results, Try.results50, go_sem] <;> rfl) rfl ?_
          first
            | refine ⟨A5, c5, ?_, ?_, ?_, ?_⟩
            | refine ⟨A5, ⟨c5, ?_⟩, ?_, ?_, ?_⟩
          · rw [← HLEN.out, HR.out, HMX.out]
          · intro hne
            obtain ⟨g, off, e, hg, hc⟩ := HRZ.out hne
            obtain ⟨g1, g2⟩ := HG.out g off e hne
            have n1 : ¬ (w2).heap.size = g := by omega
            have n2 : ¬ w.heap.size + 1 + 1 = g := by omega
            have n3 : ¬ g = (w2).heap.size := by omega
            have n4 : ¬ g = w.heap.size + 1 + 1 := by omega
            refine ⟨g, off, e, by simpa using hg, fun i hi => ?_⟩
            obtain ⟨c0, c1, c2, c3, c4⟩ := hc i hi
            clear k0 k1 f0 f1 r0 r1 q0 q1
            refine ⟨?_, ?_, ?_, ?_, ?_⟩
            all_goals (go_simp; try assumption)
          · intro g off e hne
            have g1 := (HG.out g off e hne).1
            omega
          · exact bw.trans (((((Below.refl _ _).setCell (by first | (simp; done) | (simp; omega) | omega) _).setCell (by first | (simp; done) | (simp; omega) | omega) _).setCell (by first | (simp; done) | (simp; omega) | omega) _))
      · have hZ : o = Z := by simpa using hal
        subst hZ
        have HLEN := HN
        have hz2 := HO'.out
        clear hal HO' HN
        go_upto_region 16 with fail
        clear t0 t1 tz
        obtain ⟨NN, hNN⟩ : ∃ NN, N = NN := ⟨_, rfl⟩
        rw [hNN] at hz2 HLEN ⊢
        clear hNN
        obtain ⟨Z, rfl⟩ : ∃ Z, Z = o := ⟨_, rfl⟩
        -- wr: the world, A2, c2: where the new pairs lie, hBj: Below w1.heap.size w1 wr; hz2, HLEN : NN = Z.length
        have zz := (hBj).size
        obtain ⟨t0, t1, tz⟩ := id (HK.out.keep hBj)
        have h3 := ((hBj).block _ z3).trans H3.out
        have bw := b1.trans ((hBj).mono z1)
        have hz3 := hz2
        rw [HLEN.out] at hz3
        obtain ⟨A8, c8, e8, hrz⟩ := own_rdq hz3
        simp only [Value.slice.injEq, true_and] at e8
        obtain ⟨rfl, rfl⟩ := e8
        have HRZ := Lib.hid hrz
        have hnb := nodes_bd Z HSP.out.1
        have cn : ∀ W, RdQ W A2 Z → Calls Try.prog 78 #[.agg #[.slice A2 NN c2, .int .i64 most]] W fun e w' => e = .returned (.int .i64 (nodesL Z)) ∧ Below W.heap.size W w' := fun W hr => by
          have := knodes_any (c := c2) hr HSP.out.1 (by omega) most
          rw [← HLEN.out] at this
          exact this
        have CN := Lib.hid cn
        have hG : ∀ g off, A2 = some ⟨g, off, none⟩ → Z ≠ [] → w1.heap.size ≤ g ∧ g < (wr).heap.size := fun g off e hn => by
          obtain ⟨g', c', e', h1, h2, -⟩ := row_cell hz3 rfl (List.length_pos_iff.2 hn)
          rw [e] at e'
          simp only [Value.slice.injEq, Option.some.injEq, Addr.mk.injEq] at e'
          obtain ⟨⟨rfl, -, -⟩, -⟩ := e'
          exact ⟨h1, h2⟩
        have HG := Lib.hid hG
        clear hz2 hz3 hrz cn hG
        obtain ⟨R, hR⟩ : ∃ R, nodesL Z = R := ⟨_, rfl⟩
        rw [hR] at hnb CN
        have HR := Lib.hid hR
        have hRb : 2 ≤ R ∧ R ≤ 10000000 := by omega
        clear hR hnb
        go_upto_region 17 with fail
        generalize hW : World.alloc _ _ = W
        have hBW : Below (wr).heap.size wr W := by subst hW; go_grown
        have hB3 : W.heap[(wr).heap.size]? = some (.cells #[.slice A2 NN c2, .int .i64 most] 33 (0, 0)) := by subst hW; repeat (first | (refine hp_new ?_; (simp; done)) | (refine hp_old ?_ ?_; · (first | (simp; done) | (simp; omega))))
        have zW := lt_of_block hB3
        have k0 : W.cell? ⟨(wr).heap.size, 0, none⟩ = some (.slice A2 NN c2) := by rw [cell_row hB3]; rfl
        have k1 : W.cell? ⟨(wr).heap.size, 1, none⟩ = some (.int .i64 most) := by rw [cell_row hB3]; rfl
        replace h3 := (hBW.block _ (by omega)).trans h3
        replace bw := bw.trans (hBW.mono bw.size)
        replace HRZ := Lib.hid (HRZ.out.keep hBW (Nat.le_refl _))
        clear hW hBW t0 t1 tz
        have Lk0 := fun x : Later W.heap.size W => (x.cell zW).trans k0
        have Lk1 := fun x : Later W.heap.size W => (x.cell zW).trans k1
        by_cases hmx : most < R
        · have HMX : Hid (max most R = R) := Lib.hid (by omega)
          refine region_tail 6 W.heap.size (by kernel_rfl) (by kernel_rfl) ?_
          simp only [List.take_succ_cons, List.take_zero, List.drop_succ_cons, List.drop_zero]
          repeat (go_big_quiet_step ((go_at_call 78; exact later_of (Nat.le_refl _) (CN.out _ (HRZ.out.keep (Later.below _) (Nat.le_refl _))))))
          refine wpQuiet_nil ?_
          intro x
          have hx := x.below
          generalize x.at = V at hx ⊢
          clear x Lk0 Lk1 k0 k1
          have hV3 := (hx.block _ zW).trans hB3
          replace h3 := (hx.block _ (by omega)).trans h3
          replace bw := bw.trans (hx.mono bw.size)
          replace HRZ := Lib.hid (HRZ.out.keep hx (Nat.le_refl _))
          have zV := hx.size
          clear hx hB3 CN
          have k0 : V.cell? ⟨(wr).heap.size, 0, none⟩ = some (.slice A2 NN c2) := by rw [cell_row hV3]; rfl
          have k1 : V.cell? ⟨(wr).heap.size, 1, none⟩ = some (.int .i64 most) := by rw [cell_row hV3]; rfl
          have f0 := frozen_of_row V ((wr).heap.size) 0 _ _ hV3
          have f1 := frozen_of_row V ((wr).heap.size) 1 _ _ hV3
          have r0 : V.cell? ⟨w.heap.size + 1 + 1, 0, none⟩ = some (.slice none 0 0) := by rw [cell_row h3]; rfl
          have r1 : V.cell? ⟨w.heap.size + 1 + 1, 1, none⟩ = some (.int .i64 0) := by rw [cell_row h3]; rfl
          have q0 := frozen_of_row V (w.heap.size + 1 + 1) 0 _ _ h3
          have q1 := frozen_of_row V (w.heap.size + 1 + 1) 1 _ _ h3
          have nn : ¬ w.heap.size + 1 + 1 = (wr).heap.size := by omega
          have nn2 : ¬ (wr).heap.size = w.heap.size + 1 + 1 := by omega
          clear hV3 h3
          go_wp2
          refine bodyPost_ret (v := .tuple #[.agg #[.slice A2 NN c2, .int .i64 R], .int .i64 0]) (by simp [*, results, Try.results50, go_sem] <;> rfl) rfl ?_
          first
            | refine ⟨A2, c2, ?_, ?_, ?_, ?_⟩
            | refine ⟨A2, ⟨c2, ?_⟩, ?_, ?_, ?_⟩
          · rw [← HLEN.out, HR.out, HMX.out]
          · intro hne
            obtain ⟨g, off, e, hg, hc⟩ := HRZ.out hne
            obtain ⟨g1, g2⟩ := HG.out g off e hne
            have n1 : ¬ (wr).heap.size = g := by omega
            have n2 : ¬ w.heap.size + 1 + 1 = g := by omega
            have n3 : ¬ g = (wr).heap.size := by omega
            have n4 : ¬ g = w.heap.size + 1 + 1 := by omega
            refine ⟨g, off, e, by simpa using hg, fun i hi => ?_⟩
            obtain ⟨c0, c1, c2, c3, c4⟩ := hc i hi
            clear k0 k1 f0 f1 r0 r1 q0 q1
            refine ⟨?_, ?_, ?_, ?_, ?_⟩
            all_goals (go_simp; try assumption)
          · intro g off e hne
            have g1 := (HG.out g off e hne).1
            omega
          · exact bw.trans (((((Below.refl _ _).setCell (by first | (simp; done) | (simp; omega) | omega) _).setCell (by first | (simp; done) | (simp; omega) | omega) _).setCell (by first | (simp; done) | (simp; omega) | omega) _))
        · have HMX : Hid (max most R = most) := Lib.hid (by omega)
          refine region_tail 6 W.heap.size (by kernel_rfl) (by kernel_rfl) ?_
          simp only [List.take_succ_cons, List.take_zero, List.drop_succ_cons, List.drop_zero]
          repeat (go_big_quiet_step ((go_at_call 78; exact later_of (Nat.le_refl _) (CN.out _ (HRZ.out.keep (Later.below _) (Nat.le_refl _))))))
          refine wpQuiet_nil ?_
          intro x
          have hx := x.below
          generalize x.at = V at hx ⊢
          clear x Lk0 Lk1 k0 k1
          have hV3 := (hx.block _ zW).trans hB3
          replace h3 := (hx.block _ (by omega)).trans h3
          replace bw := bw.trans (hx.mono bw.size)
          replace HRZ := Lib.hid (HRZ.out.keep hx (Nat.le_refl _))
          have zV := hx.size
          clear hx hB3 CN
          have k0 : V.cell? ⟨(wr).heap.size, 0, none⟩ = some (.slice A2 NN c2) := by rw [cell_row hV3]; rfl
          have k1 : V.cell? ⟨(wr).heap.size, 1, none⟩ = some (.int .i64 most) := by rw [cell_row hV3]; rfl
          have f0 := frozen_of_row V ((wr).heap.size) 0 _ _ hV3
          have f1 := frozen_of_row V ((wr).heap.size) 1 _ _ hV3
          have r0 : V.cell? ⟨w.heap.size + 1 + 1, 0, none⟩ = some (.slice none 0 0) := by rw [cell_row h3]; rfl
          have r1 : V.cell? ⟨w.heap.size + 1 + 1, 1, none⟩ = some (.int .i64 0) := by rw [cell_row h3]; rfl
          have q0 := frozen_of_row V (w.heap.size + 1 + 1) 0 _ _ h3
          have q1 := frozen_of_row V (w.heap.size + 1 + 1) 1 _ _ h3
          have nn : ¬ w.heap.size + 1 + 1 = (wr).heap.size := by omega
          have nn2 : ¬ (wr).heap.size = w.heap.size + 1 + 1 := by omega
          clear hV3 h3
          go_wp2
          refine bodyPost_ret (v := .tuple #[.agg #[.slice A2 NN c2, .int .i64 most], .int .i64 0]) (by simp [*, results, Try.results50, go_sem] <;> rfl) rfl ?_
          first
            | refine ⟨A2, c2, ?_, ?_, ?_, ?_⟩
            | refine ⟨A2, ⟨c2, ?_⟩, ?_, ?_, ?_⟩
          · rw [← HLEN.out, HR.out, HMX.out]
          · intro hne
            obtain ⟨g, off, e, hg, hc⟩ := HRZ.out hne
            obtain ⟨g1, g2⟩ := HG.out g off e hne
            have n1 : ¬ (wr).heap.size = g := by omega
            have n2 : ¬ w.heap.size + 1 + 1 = g := by omega
            have n3 : ¬ g = (wr).heap.size := by omega
            have n4 : ¬ g = w.heap.size + 1 + 1 := by omega
            refine ⟨g, off, e, by simpa using hg, fun i hi => ?_⟩
            obtain ⟨c0, c1, c2, c3, c4⟩ := hc i hi
            clear k0 k1 f0 f1 r0 r1 q0 q1
            refine ⟨?_, ?_, ?_, ?_, ?_⟩
            all_goals (go_simp; try assumption)
          · intro g off e hne
            have g1 := (HG.out g off e hne).1
            omega
          · exact bw.trans (((((Below.refl _ _).setCell (by first | (simp; done) | (simp; omega) | omega) _).setCell (by first | (simp; done) | (simp; omega) | omega) _).setCell (by first | (simp; done) | (simp; omega) | omega) _))
end

end Go.Proofs.Ytggceecolfebjaa
