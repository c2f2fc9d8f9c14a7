/-
  What New, Inside, route and Governs of the document's answer for layer 6 return. Condition: the pairs lie where the argument says.
-/
import Derived.Test.YtnmjofccedjkkaaH1
import Derived.Test.YtnmjofccedjkkaaR1
namespace Go.Proofs.Ytnmjofccedjkkaa
open Go.RowKit Go.Maps
set_option maxRecDepth 100000

theorem unl_snoc (l : List Int) (x : Int) : unl (l ++ [x]) = unl l + if x ∈ l then 0 else 1 := by
  rw [unl_perm (List.perm_append_comm : (l ++ [x]).Perm ([x] ++ l))]
  rfl
/-- How many unlike hops the first k have. -/
def unlK (T : List Pr) (k : Nat) : Nat := unl (hopsL (T.take k))
theorem unlK_succ (T : List Pr) {k : Nat} (h : k < T.length) : unlK T (k + 1) = unlK T k + if T[k].v ∈ hopsL (T.take k) then 0 else 1 := by
  unfold unlK hopsL
  rw [List.take_succ_eq_append_getElem h, List.map_append]
  exact unl_snoc _ _
theorem unlK_le (T : List Pr) (k : Nat) : unlK T k ≤ T.length := by
  unfold unlK
  have h1 := unl_le (hopsL (T.take k))
  unfold hopsL at h1 ⊢
  rw [List.length_map, List.length_take] at h1
  omega
/-- Is none of the first k of that hop? -/
def fstK (T : List Pr) (v : Int) (k : Nat) : Bool := (T.take k).all fun x => decide (x.v ≠ v)
theorem fstK_succ (T : List Pr) (v : Int) {k : Nat} (h : k < T.length) : fstK T v (k + 1) = (fstK T v k && decide (T[k].v ≠ v)) := by
  unfold fstK
  rw [List.take_succ_eq_append_getElem h, List.all_append]
  simp
theorem fstK_mem (T : List Pr) (v : Int) (k : Nat) : fstK T v k = !decide (v ∈ hopsL (T.take k)) := by
  unfold fstK
  rw [Bool.eq_iff_iff]
  simp only [List.all_eq_true, decide_eq_true_eq, Bool.not_eq_true', decide_eq_false_iff_not]
  constructor
  · intro h hm
    obtain ⟨x, hx, e⟩ := mem_hops.1 hm
    exact h x hx e
  · intro h x hx e
    exact h (mem_hops.2 ⟨x, hx, e⟩)

end Go.Proofs.Ytnmjofccedjkkaa

namespace Go.Proofs.Ytnmjofccedjkkaa
open Go.RowKit Go.Maps
set_option maxRecDepth 100000

/-- A tree of the document's answer lies in a block. -/
def KBox (w : World) (b : Nat) (A : Option Addr) (n c : Nat) (most : Int) : Prop := w.cell? ⟨b, 0, none⟩ = some (.slice A n c) ∧ w.cell? ⟨b, 1, none⟩ = some (.int .i64 most) ∧ b < w.heap.size
theorem KBox.keep {w w' : World} {b n c : Nat} {A : Option Addr} {most : Int} (h : KBox w b A n c most) (hb : Below w.heap.size w w') : KBox w' b A n c most := by
  obtain ⟨h0, h1, hz⟩ := h
  exact ⟨(hb.cell hz).trans h0, (hb.cell hz).trans h1, Nat.lt_of_lt_of_le hz hb.size⟩
/-- A row that was made lies as a slice says. -/
theorem own_rdq {E : TypeId} {w : World} {base : Nat} {v : Value} {l : List Pr} (h : w.ownsRow base E 5 v l.length (prv l)) : ∃ A c, v = .slice A l.length c ∧ RdQ w A l := by
  obtain ⟨A, c, rfl, -⟩ := own_val h
  refine ⟨A, c, rfl, fun hn => ?_⟩
  have hpos : 0 < l.length := by
    rcases Nat.eq_zero_or_pos l.length with h0 | h0
    · exact absurd (List.eq_nil_of_length_eq_zero h0) hn
    · exact h0
  obtain ⟨g, cg, eg, -, hg, -⟩ := row_cell h rfl hpos
  simp only [Value.slice.injEq, true_and] at eg
  obtain ⟨rfl, rfl⟩ := eg
  refine ⟨g, 0, rfl, hg, fun i hi => ?_⟩
  obtain ⟨g', cg', eg', -, -, hcc⟩ := row_cell h rfl hi
  simp only [Value.slice.injEq, true_and, Option.some.injEq, Addr.mk.injEq, and_true] at eg'
  obtain ⟨rfl, -⟩ := eg'
  have c0 : w.cell? ⟨g, i * 5, none⟩ = some (.int .u64 (u l[i].p.a.hi)) := hcc 0 (by omega)
  have c1 : w.cell? ⟨g, i * 5 + 1, none⟩ = some (.int .u64 (u l[i].p.a.lo)) := hcc 1 (by omega)
  have c2 : w.cell? ⟨g, i * 5 + 2, none⟩ = some (.bool l[i].p.a.v6) := hcc 2 (by omega)
  have c3 : w.cell? ⟨g, i * 5 + 3, none⟩ = some (.int .i64 l[i].p.n) := hcc 3 (by omega)
  have c4 : w.cell? ⟨g, i * 5 + 4, none⟩ = some (.int .i64 l[i].v) := hcc 4 (by omega)
  simp only [Nat.zero_add]
  exact ⟨c0, c1, c2, c3, c4⟩

theorem filt_yes {f : Pr → Bool} {L : List Pr} {k : Nat} (h : k < L.length) {y : Pr} (hy : L[k] = y) (hf : f y = true) : (L.take (k + 1)).filter f = (L.take k).filter f ++ [y] := by
  rw [List.take_succ_eq_append_getElem h, List.filter_append, hy, List.filter_cons_of_pos hf, List.filter_nil]
theorem filt_no {f : Pr → Bool} {L : List Pr} {k : Nat} (h : k < L.length) {y : Pr} (hy : L[k] = y) (hf : f y = false) : (L.take (k + 1)).filter f = (L.take k).filter f := by
  rw [List.take_succ_eq_append_getElem h, List.filter_append, hy, List.filter_cons_of_neg (by rw [hf]; decide), List.filter_nil, List.append_nil]
section
variable {w : World} {A : Option Addr} {c : Nat} {L : List Pr}
set_option maxHeartbeats 2000000 in
theorem kins_any (hr : RdQ w A L) (hl : L.length ≤ 1000000) (most : Int) (p : Pf) : Calls Try.prog 85 #[.agg #[.slice A L.length c, .int .i64 most], .agg #[.int .u64 (u p.a.hi), .int .u64 (u p.a.lo), .bool p.a.v6, .int .i64 p.n]] w fun e w' => e = .returned (.bool (insL L p)) ∧ Below w.heap.size w w' := by
  have HRD := Lib.hid hr
  clear hr
  obtain ⟨I, hI⟩ : ∃ I, insL L p = I := ⟨_, rfl⟩
  rw [hI]
  have HI := Lib.hid hI
  clear hI
  -- kedge/kedgeref05.Inside: the function, $2: the contract's name, $3: its arguments, $4: the test as a function, $5: order of the call's function
  go_enter Try.func85, Try.ntmps85
  go_wp2_with fail
  generalize hW : World.alloc _ _ = W
  have hz : w.heap.size ≤ W.heap.size := by subst hW; go_size
  have hB : Below w.heap.size w W := by subst hW; go_grown
  have hK : KBox W w.heap.size A L.length c most := by subst hW; exact (by refine ⟨?_, ?_, ?_⟩ <;> first | (go_simp; done) | (go_simp <;> rfl) | go_size)
  have hP : PBox W (w.heap.size + 1) p := by subst hW; exact ⟨by go_simp <;> rfl, by go_simp <;> rfl, by go_simp <;> rfl, by go_simp <;> rfl, by go_simp <;> rfl, by go_simp <;> rfl, by go_simp <;> rfl, by go_simp <;> rfl, by go_size⟩
  have HK := Lib.hid hK
  have HP := Lib.hid hP
  have z2 : w.heap.size + 1 < W.heap.size := hP.2.2.2.2.2.2.2.2
  clear hW hK hP
  obtain ⟨W0, rfl⟩ : ∃ W0, W0 = W := ⟨_, rfl⟩
  go_loopw [5] (fun i wr => ∃ k : Nat, k ≤ L.length ∧ i = .int .i64 k ∧ insL (L.take k) p = false ∧ Below W0.heap.size W0 wr) (fun i _ => L.length - (RowKit.intOf i).toNat)
  case atStart => exact ⟨0, Nat.zero_le _, rfl, rfl, Below.refl _ _⟩
  case round =>
    obtain ⟨k, hk, rfl, hf, hBj⟩ := hrel
    have hB := hB.trans (hBj.mono hz)
    have HF := Lib.hid hf
    obtain ⟨t0, t1, tz⟩ := id (HK.out.keep hBj)
    obtain ⟨pa, pb, pc, pg, -, -, -, -, pz⟩ := id (HP.out.keep hBj)
    clear hf HK HP
    by_cases hlt : k < L.length
    · -- HRD: the fact RdQ at w, L: the list; k, hlt, hB : Below w.heap.size w wr. The cells of the k-th in wr: d0 .. d4
      obtain ⟨g, off, rfl, hg, hc⟩ := HRD.out (by intro e; rw [e] at hlt; cases hlt)
      obtain ⟨c0, c1, c2, c3, c4⟩ := hc k hlt
      have d0 := (hB.cell (p := ⟨g, off + k * 5, none⟩) hg).trans c0
      have d1 := (hB.cell (p := ⟨g, off + k * 5 + 1, none⟩) hg).trans c1
      have d2 := (hB.cell (p := ⟨g, off + k * 5 + 2, none⟩) hg).trans c2
      have d3 := (hB.cell (p := ⟨g, off + k * 5 + 3, none⟩) hg).trans c3
      have d4 := (hB.cell (p := ⟨g, off + k * 5 + 4, none⟩) hg).trans c4
      have gz : g < wr.heap.size := Nat.lt_of_lt_of_le hg hB.size
      clear c0 c1 c2 c3 c4 hc
      have hs : insL (L.take (k + 1)) p = pins p L[k].p := by
        unfold insL
        rw [List.take_succ_eq_append_getElem hlt, List.any_append]
        have := HF.out
        unfold insL at this
        rw [this]
        simp
      have hin : pins p L[k].p = true → I = true := fun h => by rw [← HI.out]; exact List.any_eq_true.2 ⟨L[k], List.getElem_mem hlt, h⟩
      obtain ⟨y, hy⟩ : ∃ y, L[k] = y := ⟨_, rfl⟩
      rw [hy] at d0 d1 d2 d3 d4 hs hin
      have HS := Lib.hid hs
      have HIN := Lib.hid hin
      have k1 : (k : Int) < (L.length : Int) := by omega
      have k2 : (k : Int) + 1 ≤ 2000000 := by omega
      have kt : decide ((k : Int) < (L.length : Int)) = true := decide_eq_true k1
      clear hs hy hin
      obtain ⟨W, rfl⟩ : ∃ W, W = wr := ⟨_, rfl⟩
      have Ld0 := fun x : Later W.heap.size W => (x.cell (p := ⟨g, off + k * 5, none⟩) gz).trans d0
      have Ld1 := fun x : Later W.heap.size W => (x.cell (p := ⟨g, off + k * 5 + 1, none⟩) gz).trans d1
      have Ld2 := fun x : Later W.heap.size W => (x.cell (p := ⟨g, off + k * 5 + 2, none⟩) gz).trans d2
      have Ld3 := fun x : Later W.heap.size W => (x.cell (p := ⟨g, off + k * 5 + 3, none⟩) gz).trans d3
      have Ld4 := fun x : Later W.heap.size W => (x.cell (p := ⟨g, off + k * 5 + 4, none⟩) gz).trans d4
      have Lt0 := fun x : Later W.heap.size W => (x.cell tz).trans t0
      have Lpa := fun x : Later W.heap.size W => (x.cell pz).trans pa
      have Lpb := fun x : Later W.heap.size W => (x.cell pz).trans pb
      have Lpc := fun x : Later W.heap.size W => (x.cell pz).trans pc
      have Lpg := fun x : Later W.heap.size W => (x.cell pz).trans pg
      go_wp2_with fail
      refine region_later W.heap.size (by kernel_rfl) (by kernel_rfl) ?_
      repeat (go_big_quiet_step ((go_at_call 116; exact later_of (Nat.le_refl _) (rpins_any p y.p _))))
      refine wpQuiet_nil ?_
      intro x
      have hx := x.below
      generalize x.at = V at hx ⊢
      clear x Ld0 Ld1 Ld2 Ld3 Ld4 Lt0 Lpa Lpb Lpc Lpg d0 d1 d2 d3 d4 t0 t1 pa pb pc pg
      have bV := hBj.trans (hx.mono hBj.size)
      have bV2 := hB.trans (hx.mono hB.size)
      clear hx
      cases hc : pins p y.p
      · have HC := Lib.hid hc
        clear hc
        go_wp2
        go_roundw
        case rel => exact ⟨k + 1, by omega, by go_num, by rw [HS.out]; exact HC.out, bV⟩
        case measure => simp [RowKit.intOf]; omega
      · have HC := Lib.hid hc
        clear hc
        go_wp2
        go_ret
        exact ⟨ret_bool (HIN.out HC.out).symm, bV2⟩
    · obtain rfl : k = L.length := by omega
      have e := HF.out
      rw [List.take_length, HI.out] at e
      have HE := Lib.hid e
      clear e
      have kt : decide ((L.length : Int) < (L.length : Int)) = false := by simp
      go_wp2
      go_ret
      exact ⟨ret_bool HE.out.symm, hB⟩
/-- A fresh row of pairs of the document's kind. -/
def KPost (w : World) (l : List Pr) (e : Ending) (w' : World) : Prop := ∃ v, e = .returned v ∧ w'.ownsRow w.heap.size 127 5 v l.length (prv l) ∧ Below w.heap.size w w'
set_option maxHeartbeats 2000000 in
theorem kabove_any (hr : RdQ w A L) (hl : L.length ≤ 1000000) (most : Int) (p : Pf) : Calls Try.prog 82 #[.agg #[.slice A L.length c, .int .i64 most], .agg #[.int .u64 (u p.a.hi), .int .u64 (u p.a.lo), .bool p.a.v6, .int .i64 p.n]] w (KPost w (L.filter fun x => pcov x.p p)) := by
  -- kedge/kedgeref05.Above: the function, kedge/kedgeref02.Covers: the test's function, rpcov_any y.p p _: its contract, (fun x : Pr => pcov x.p p): the test of y
  have HRD := Lib.hid hr
  clear hr
  -- kedge/kedgeref05.Above: the function, $2: the contract's name, $3: its arguments, $4: the test as a function, $5: order of the call's function
  go_enter Try.func82, Try.ntmps82
  go_wp2_with fail
  generalize hW : World.alloc _ _ = W
  have hz : w.heap.size ≤ W.heap.size := by subst hW; go_size
  have hB : Below w.heap.size w W := by subst hW; go_grown
  have hK : KBox W w.heap.size A L.length c most := by subst hW; exact (by refine ⟨?_, ?_, ?_⟩ <;> first | (go_simp; done) | (go_simp <;> rfl) | go_size)
  have hP : PBox W (w.heap.size + 1) p := by subst hW; exact ⟨by go_simp <;> rfl, by go_simp <;> rfl, by go_simp <;> rfl, by go_simp <;> rfl, by go_simp <;> rfl, by go_simp <;> rfl, by go_simp <;> rfl, by go_simp <;> rfl, by go_size⟩
  have HK := Lib.hid hK
  have HP := Lib.hid hP
  have z2 : w.heap.size + 1 < W.heap.size := hP.2.2.2.2.2.2.2.2
  clear hW hK hP
  obtain ⟨W0, rfl⟩ : ∃ W0, W0 = W := ⟨_, rfl⟩
  go_loopw [5, 6] (fun o i wr => ∃ k N : Nat, k ≤ L.length ∧ i = .int .i64 k ∧ N = ((L.take k).filter (fun x : Pr => pcov x.p p)).length ∧ wr.ownsRow W0.heap.size 127 5 o N (prv ((L.take k).filter (fun x : Pr => pcov x.p p))) ∧ Below W0.heap.size W0 wr) (fun _ i _ => L.length - (RowKit.intOf i).toNat)
  case atStart => exact ⟨0, 0, Nat.zero_le _, rfl, rfl, World.ownsRow_nil _ _ _ _, Below.refl _ _⟩
  case round =>
    obtain ⟨k, N, hk, rfl, hN, hown, hBj⟩ := hrel
    have hB := hB.trans (hBj.mono hz)
    have HO := Lib.hid hown
    have HN := Lib.hid hN
    have hN9 : N ≤ 1000000 := by
      have h1 := List.length_filter_le (fun x : Pr => pcov x.p p) (L.take k)
      rw [List.length_take] at h1
      omega
    obtain ⟨A2, c2, rfl, -⟩ := own_val hown
    obtain ⟨t0, t1, tz⟩ := id (HK.out.keep hBj)
    obtain ⟨pa, pb, pc, pg, -, -, -, -, pz⟩ := id (HP.out.keep hBj)
    clear hown hN HK HP
    by_cases hlt : k < L.length
    · -- HRD: the fact RdQ at w, L: the list; k, hlt, hB : Below w.heap.size w wr. The cells of the k-th in wr: d0 .. d4
      obtain ⟨g, off, rfl, hg, hc⟩ := HRD.out (by intro e; rw [e] at hlt; cases hlt)
      obtain ⟨c0, c1, c2, c3, c4⟩ := hc k hlt
      have d0 := (hB.cell (p := ⟨g, off + k * 5, none⟩) hg).trans c0
      have d1 := (hB.cell (p := ⟨g, off + k * 5 + 1, none⟩) hg).trans c1
      have d2 := (hB.cell (p := ⟨g, off + k * 5 + 2, none⟩) hg).trans c2
      have d3 := (hB.cell (p := ⟨g, off + k * 5 + 3, none⟩) hg).trans c3
      have d4 := (hB.cell (p := ⟨g, off + k * 5 + 4, none⟩) hg).trans c4
      have gz : g < wr.heap.size := Nat.lt_of_lt_of_le hg hB.size
      clear c0 c1 c2 c3 c4 hc
      obtain ⟨y, hy⟩ : ∃ y, L[k] = y := ⟨_, rfl⟩
      rw [hy] at d0 d1 d2 d3 d4
      have HY := Lib.hid hy
      clear hy
      obtain ⟨W, rfl⟩ : ∃ W, W = wr := ⟨_, rfl⟩
      have Ld0 := fun x : Later W.heap.size W => (x.cell (p := ⟨g, off + k * 5, none⟩) gz).trans d0
      have Ld1 := fun x : Later W.heap.size W => (x.cell (p := ⟨g, off + k * 5 + 1, none⟩) gz).trans d1
      have Ld2 := fun x : Later W.heap.size W => (x.cell (p := ⟨g, off + k * 5 + 2, none⟩) gz).trans d2
      have Ld3 := fun x : Later W.heap.size W => (x.cell (p := ⟨g, off + k * 5 + 3, none⟩) gz).trans d3
      have Ld4 := fun x : Later W.heap.size W => (x.cell (p := ⟨g, off + k * 5 + 4, none⟩) gz).trans d4
      have Lt0 := fun x : Later W.heap.size W => (x.cell tz).trans t0
      have Lpa := fun x : Later W.heap.size W => (x.cell pz).trans pa
      have Lpb := fun x : Later W.heap.size W => (x.cell pz).trans pb
      have Lpc := fun x : Later W.heap.size W => (x.cell pz).trans pc
      have Lpg := fun x : Later W.heap.size W => (x.cell pz).trans pg
      go_wp2_with fail
      refine region_later W.heap.size (by kernel_rfl) (by kernel_rfl) ?_
      repeat (go_big_quiet_step ((go_at_call 113; exact later_of (Nat.le_refl _) (rpcov_any y.p p _))))
      refine wpQuiet_nil ?_
      intro x
      have hx := x.below
      generalize x.at = V at hx ⊢
      clear x Ld0 Ld1 Ld2 Ld3 Ld4 Lt0 Lpa Lpb Lpc Lpg pa pb pc pg t1
      have bV := hBj.trans (hx.mono hBj.size)
      have bV2 := hB.trans (hx.mono hB.size)
      have HOV := Lib.hid (own_fresh HO.out hx)
      clear HO
      have zV := bV.size
      cases hc : pcov y.p p
      · have HC : Hid ((L.take (k + 1)).filter (fun x : Pr => pcov x.p p) = (L.take k).filter (fun x : Pr => pcov x.p p)) := Lib.hid (filt_no hlt HY.out hc)
        clear hc hx d0 d1 d2 d3 d4 t0
        go_wp2
        go_roundw
        case rel => exact ⟨k + 1, N, by omega, by go_num, by rw [HC.out]; exact HN.out, by rw [HC.out]; exact HOV.out, bV⟩
        case measure => simp [RowKit.intOf]; omega
      · have HC : Hid ((L.take (k + 1)).filter (fun x : Pr => pcov x.p p) = (L.take k).filter (fun x : Pr => pcov x.p p) ++ [y]) := Lib.hid (filt_yes hlt HY.out hc)
        clear hc
        replace d0 := (hx.cell (p := ⟨g, off + k * 5, none⟩) gz).trans d0
        replace d1 := (hx.cell (p := ⟨g, off + k * 5 + 1, none⟩) gz).trans d1
        replace d2 := (hx.cell (p := ⟨g, off + k * 5 + 2, none⟩) gz).trans d2
        replace d3 := (hx.cell (p := ⟨g, off + k * 5 + 3, none⟩) gz).trans d3
        replace d4 := (hx.cell (p := ⟨g, off + k * 5 + 4, none⟩) gz).trans d4
        replace t0 := (hx.cell tz).trans t0
        clear hx
        go_wp2_with (
          at_builtin
          refine wpList_five1 five_ref rfl (.tmp 22) (.tmp 28) rfl W0.heap.size _ N ((L.take k).filter (fun x : Pr => pcov x.p p)) HN.out (by rfl) (HOV.out.alloc _) V.heap.size y (by rfl) (heap_alloc_new V _) (by omega) (by simp; omega) ?_
          intro v2 w2 ho2 hb2
          have b2 : Below W0.heap.size W0 w2 := bV.trans (Below.trans (by go_grown) hb2)
          have HO2 := Lib.hid ho2
          obtain ⟨A5, c5, rfl, -⟩ := own_val ho2
          clear ho2 hb2 d0 d1 d2 d3 d4 t0
          )
        go_roundw
        case rel => exact ⟨k + 1, N + 1, by omega, by go_num, by rw [HC.out, List.length_append, ← HN.out]; rfl, by rw [HC.out]; exact HO2.out, b2⟩
        case measure => simp [RowKit.intOf]; omega
    · obtain rfl : k = L.length := by omega
      have e := HO.out
      have hNe := HN.out
      rw [List.take_length] at hNe
      rw [hNe, List.take_length] at e
      have HE := Lib.hid e
      clear e HO HN
      subst hNe
      have kt : decide ((L.length : Int) < (L.length : Int)) = false := by simp
      go_wp2
      go_ret
      exact ⟨_, rfl, own_base HE.out hz, hB⟩
set_option maxHeartbeats 2000000 in
theorem kunder_any (hr : RdQ w A L) (hl : L.length ≤ 1000000) (most : Int) (p : Pf) : Calls Try.prog 84 #[.agg #[.slice A L.length c, .int .i64 most], .agg #[.int .u64 (u p.a.hi), .int .u64 (u p.a.lo), .bool p.a.v6, .int .i64 p.n]] w (KPost w (L.filter fun x => pcov p x.p)) := by
  -- kedge/kedgeref05.Under: the function, kedge/kedgeref02.Covers: the test's function, rpcov_any p y.p _: its contract, (fun x : Pr => pcov p x.p): the test of y
  have HRD := Lib.hid hr
  clear hr
  -- kedge/kedgeref05.Under: the function, $2: the contract's name, $3: its arguments, $4: the test as a function, $5: order of the call's function
  go_enter Try.func84, Try.ntmps84
  go_wp2_with fail
  generalize hW : World.alloc _ _ = W
  have hz : w.heap.size ≤ W.heap.size := by subst hW; go_size
  have hB : Below w.heap.size w W := by subst hW; go_grown
  have hK : KBox W w.heap.size A L.length c most := by subst hW; exact (by refine ⟨?_, ?_, ?_⟩ <;> first | (go_simp; done) | (go_simp <;> rfl) | go_size)
  have hP : PBox W (w.heap.size + 1) p := by subst hW; exact ⟨by go_simp <;> rfl, by go_simp <;> rfl, by go_simp <;> rfl, by go_simp <;> rfl, by go_simp <;> rfl, by go_simp <;> rfl, by go_simp <;> rfl, by go_simp <;> rfl, by go_size⟩
  have HK := Lib.hid hK
  have HP := Lib.hid hP
  have z2 : w.heap.size + 1 < W.heap.size := hP.2.2.2.2.2.2.2.2
  clear hW hK hP
  obtain ⟨W0, rfl⟩ : ∃ W0, W0 = W := ⟨_, rfl⟩
  go_loopw [5, 6] (fun o i wr => ∃ k N : Nat, k ≤ L.length ∧ i = .int .i64 k ∧ N = ((L.take k).filter (fun x : Pr => pcov p x.p)).length ∧ wr.ownsRow W0.heap.size 127 5 o N (prv ((L.take k).filter (fun x : Pr => pcov p x.p))) ∧ Below W0.heap.size W0 wr) (fun _ i _ => L.length - (RowKit.intOf i).toNat)
  case atStart => exact ⟨0, 0, Nat.zero_le _, rfl, rfl, World.ownsRow_nil _ _ _ _, Below.refl _ _⟩
  case round =>
    obtain ⟨k, N, hk, rfl, hN, hown, hBj⟩ := hrel
    have hB := hB.trans (hBj.mono hz)
    have HO := Lib.hid hown
    have HN := Lib.hid hN
    have hN9 : N ≤ 1000000 := by
      have h1 := List.length_filter_le (fun x : Pr => pcov p x.p) (L.take k)
      rw [List.length_take] at h1
      omega
    obtain ⟨A2, c2, rfl, -⟩ := own_val hown
    obtain ⟨t0, t1, tz⟩ := id (HK.out.keep hBj)
    obtain ⟨pa, pb, pc, pg, -, -, -, -, pz⟩ := id (HP.out.keep hBj)
    clear hown hN HK HP
    by_cases hlt : k < L.length
    · -- HRD: the fact RdQ at w, L: the list; k, hlt, hB : Below w.heap.size w wr. The cells of the k-th in wr: d0 .. d4
      obtain ⟨g, off, rfl, hg, hc⟩ := HRD.out (by intro e; rw [e] at hlt; cases hlt)
      obtain ⟨c0, c1, c2, c3, c4⟩ := hc k hlt
      have d0 := (hB.cell (p := ⟨g, off + k * 5, none⟩) hg).trans c0
      have d1 := (hB.cell (p := ⟨g, off + k * 5 + 1, none⟩) hg).trans c1
      have d2 := (hB.cell (p := ⟨g, off + k * 5 + 2, none⟩) hg).trans c2
      have d3 := (hB.cell (p := ⟨g, off + k * 5 + 3, none⟩) hg).trans c3
      have d4 := (hB.cell (p := ⟨g, off + k * 5 + 4, none⟩) hg).trans c4
      have gz : g < wr.heap.size := Nat.lt_of_lt_of_le hg hB.size
      clear c0 c1 c2 c3 c4 hc
      obtain ⟨y, hy⟩ : ∃ y, L[k] = y := ⟨_, rfl⟩
      rw [hy] at d0 d1 d2 d3 d4
      have HY := Lib.hid hy
      clear hy
      obtain ⟨W, rfl⟩ : ∃ W, W = wr := ⟨_, rfl⟩
      have Ld0 := fun x : Later W.heap.size W => (x.cell (p := ⟨g, off + k * 5, none⟩) gz).trans d0
      have Ld1 := fun x : Later W.heap.size W => (x.cell (p := ⟨g, off + k * 5 + 1, none⟩) gz).trans d1
      have Ld2 := fun x : Later W.heap.size W => (x.cell (p := ⟨g, off + k * 5 + 2, none⟩) gz).trans d2
      have Ld3 := fun x : Later W.heap.size W => (x.cell (p := ⟨g, off + k * 5 + 3, none⟩) gz).trans d3
      have Ld4 := fun x : Later W.heap.size W => (x.cell (p := ⟨g, off + k * 5 + 4, none⟩) gz).trans d4
      have Lt0 := fun x : Later W.heap.size W => (x.cell tz).trans t0
      have Lpa := fun x : Later W.heap.size W => (x.cell pz).trans pa
      have Lpb := fun x : Later W.heap.size W => (x.cell pz).trans pb
      have Lpc := fun x : Later W.heap.size W => (x.cell pz).trans pc
      have Lpg := fun x : Later W.heap.size W => (x.cell pz).trans pg
      go_wp2_with fail
      refine region_later W.heap.size (by kernel_rfl) (by kernel_rfl) ?_
      repeat (go_big_quiet_step ((go_at_call 113; exact later_of (Nat.le_refl _) (rpcov_any p y.p _))))
      refine wpQuiet_nil ?_
      intro x
      have hx := x.below
      generalize x.at = V at hx ⊢
      clear x Ld0 Ld1 Ld2 Ld3 Ld4 Lt0 Lpa Lpb Lpc Lpg pa pb pc pg t1
      have bV := hBj.trans (hx.mono hBj.size)
      have bV2 := hB.trans (hx.mono hB.size)
      have HOV := Lib.hid (own_fresh HO.out hx)
      clear HO
      have zV := bV.size
      cases hc : pcov p y.p
      · have HC : Hid ((L.take (k + 1)).filter (fun x : Pr => pcov p x.p) = (L.take k).filter (fun x : Pr => pcov p x.p)) := Lib.hid (filt_no hlt HY.out hc)
        clear hc hx d0 d1 d2 d3 d4 t0
        go_wp2
        go_roundw
        case rel => exact ⟨k + 1, N, by omega, by go_num, by rw [HC.out]; exact HN.out, by rw [HC.out]; exact HOV.out, bV⟩
        case measure => simp [RowKit.intOf]; omega
      · have HC : Hid ((L.take (k + 1)).filter (fun x : Pr => pcov p x.p) = (L.take k).filter (fun x : Pr => pcov p x.p) ++ [y]) := Lib.hid (filt_yes hlt HY.out hc)
        clear hc
        replace d0 := (hx.cell (p := ⟨g, off + k * 5, none⟩) gz).trans d0
        replace d1 := (hx.cell (p := ⟨g, off + k * 5 + 1, none⟩) gz).trans d1
        replace d2 := (hx.cell (p := ⟨g, off + k * 5 + 2, none⟩) gz).trans d2
        replace d3 := (hx.cell (p := ⟨g, off + k * 5 + 3, none⟩) gz).trans d3
        replace d4 := (hx.cell (p := ⟨g, off + k * 5 + 4, none⟩) gz).trans d4
        replace t0 := (hx.cell tz).trans t0
        clear hx
        go_wp2_with (
          at_builtin
          refine wpList_five1 five_ref rfl (.tmp 22) (.tmp 28) rfl W0.heap.size _ N ((L.take k).filter (fun x : Pr => pcov p x.p)) HN.out (by rfl) (HOV.out.alloc _) V.heap.size y (by rfl) (heap_alloc_new V _) (by omega) (by simp; omega) ?_
          intro v2 w2 ho2 hb2
          have b2 : Below W0.heap.size W0 w2 := bV.trans (Below.trans (by go_grown) hb2)
          have HO2 := Lib.hid ho2
          obtain ⟨A5, c5, rfl, -⟩ := own_val ho2
          clear ho2 hb2 d0 d1 d2 d3 d4 t0
          )
        go_roundw
        case rel => exact ⟨k + 1, N + 1, by omega, by go_num, by rw [HC.out, List.length_append, ← HN.out]; rfl, by rw [HC.out]; exact HO2.out, b2⟩
        case measure => simp [RowKit.intOf]; omega
    · obtain rfl : k = L.length := by omega
      have e := HO.out
      have hNe := HN.out
      rw [List.take_length] at hNe
      rw [hNe, List.take_length] at e
      have HE := Lib.hid e
      clear e HO HN
      subst hNe
      have kt : decide ((L.length : Int) < (L.length : Int)) = false := by simp
      go_wp2
      go_ret
      exact ⟨_, rfl, own_base HE.out hz, hB⟩
end

end Go.Proofs.Ytnmjofccedjkkaa

namespace Go.Proofs.Ytnmjofccedjkkaa
open Go.RowKit Go.Maps
set_option maxRecDepth 100000

section
variable {w : World} {A : Option Addr} {c : Nat} {L : List Pr}
set_option maxHeartbeats 4000000 in
theorem khops_any (hr : RdQ w A L) (hl : L.length ≤ 100000) : Calls Try.prog 97 #[.slice A L.length c] w fun e w' => e = .returned (.int .i64 (unl (hopsL L) : Int)) ∧ Below w.heap.size w w' := by
  have HRD := Lib.hid hr
  clear hr
  obtain ⟨R, hR⟩ : ∃ R : Nat, unl (hopsL L) = R := ⟨_, rfl⟩
  rw [hR]
  have HR := Lib.hid hR
  clear hR
  go_enter Try.func97, Try.ntmps97
  go_wp2_with fail
  go_loopw [3, 4] (fun v i wr => ∃ k : Nat, k ≤ L.length ∧ i = .int .i64 k ∧ v = .int .i64 (unlK L k : Int) ∧ Below w.heap.size w wr) (fun _ i _ => L.length - (RowKit.intOf i).toNat)
  case atStart => exact ⟨0, Nat.zero_le _, rfl, rfl, Below.refl _ _⟩
  case round =>
    obtain ⟨k, hk, rfl, rfl, hB⟩ := hrel
    have hub := unlK_le L k
    by_cases hlt : k < L.length
    · -- as rdq5, but all the cells' facts stay (hc)
      obtain ⟨g, off, rfl, hg, hc⟩ := HRD.out (by intro e; rw [e] at hlt; cases hlt)
      obtain ⟨c0, c1, c2, c3, c4⟩ := hc k hlt
      have d0 := (hB.cell (p := ⟨g, off + k * 5, none⟩) hg).trans c0
      have d1 := (hB.cell (p := ⟨g, off + k * 5 + 1, none⟩) hg).trans c1
      have d2 := (hB.cell (p := ⟨g, off + k * 5 + 2, none⟩) hg).trans c2
      have d3 := (hB.cell (p := ⟨g, off + k * 5 + 3, none⟩) hg).trans c3
      have d4 := (hB.cell (p := ⟨g, off + k * 5 + 4, none⟩) hg).trans c4
      have gz : g < wr.heap.size := Nat.lt_of_lt_of_le hg hB.size
      have HC := Lib.hid hc
      clear c0 c1 c2 c3 c4 hc
      have hus := unlK_succ L hlt
      have hfm := fstK_mem L L[k].v k
      have hfs := fun j (h : j < L.length) => fstK_succ L L[k].v h
      obtain ⟨y, hy⟩ : ∃ y, L[k] = y := ⟨_, rfl⟩
      rw [hy] at d0 d1 d2 d3 d4 hus hfm
      simp only [hy] at hfs
      obtain ⟨n0, hn0⟩ : ∃ n0, unlK L k = n0 := ⟨_, rfl⟩
      rw [hn0] at hus hub ⊢
      have HUS := Lib.hid hus
      have HFM := Lib.hid hfm
      have HFS := Lib.hid hfs
      clear hus hfm hfs hy hn0 d0 d1 d2 d3
      obtain ⟨w5, rfl⟩ : ∃ w5, w5 = wr := ⟨_, rfl⟩
      go_wp2_with fail
      go_loopw [5] (fun i wx => ∃ j : Nat, j ≤ k ∧ i = .int .i64 j ∧ fstK L y.v j = true ∧ Below w5.heap.size w5 wx) (fun i _ => k - (RowKit.intOf i).toNat)
      case atStart => exact ⟨0, Nat.zero_le _, rfl, rfl, Below.refl _ _⟩
      case round =>
        obtain ⟨j, hj, rfl, hf, hBx⟩ := hrel
        have HF := Lib.hid hf
        have hB2 := hB.trans (hBx.mono hB.size)
        replace d4 := (hBx.cell (p := ⟨g, off + k * 5 + 4, none⟩) gz).trans d4
        have gz2 : g < wr.heap.size := Nat.lt_of_lt_of_le gz hBx.size
        clear hf
        by_cases hjk : j < k
        · obtain ⟨-, -, -, -, f4⟩ := HC.out j (by omega)
          replace f4 := (hB2.cell (p := ⟨g, off + j * 5 + 4, none⟩) hg).trans f4
          have hfs := HFS.out j (by omega)
          rw [HF.out] at hfs
          obtain ⟨z, hz⟩ : ∃ z, L[j] = z := ⟨_, rfl⟩
          rw [hz] at f4 hfs
          have HFJ := Lib.hid hfs
          have HZ := Lib.hid hz
          have jt : decide ((j : Int) < (k : Int)) = true := by simp; omega
          have j1 : (j : Int) < (L.length : Int) := by omega
          have k1 : (k : Int) < (L.length : Int) := by omega
          clear hfs hz HFS HC
          obtain ⟨W, rfl⟩ : ∃ W, W = wr := ⟨_, rfl⟩
          have Lf4 := fun x : Later W.heap.size W => (x.cell (p := ⟨g, off + j * 5 + 4, none⟩) gz2).trans f4
          have Ld4 := fun x : Later W.heap.size W => (x.cell (p := ⟨g, off + k * 5 + 4, none⟩) gz2).trans d4
          by_cases hv : z.v = y.v
          · have tv : (z.v == y.v) = true := by simp [hv]
            have hnf : Hid (fstK L y.v (j + 1) = false) := Lib.hid (by rw [HFJ.out]; simp [hv])
            have HQ : Hid (unlK L (k + 1) = n0) := Lib.hid (by
              have hm : z ∈ L.take k := by
                rw [← HZ.out, List.mem_take_iff_getElem]
                exact ⟨j, by omega, rfl⟩
              rw [HUS.out, if_pos (mem_hops.2 ⟨z, hm, hv⟩), Nat.add_zero])
            go_wp2_with fail
            refine region_later W.heap.size (by kernel_rfl) (by kernel_rfl) ?_
            repeat (go_big_quiet_step (fail))
            refine wpQuiet_nil ?_
            intro x
            have hx := x.below
            generalize x.at = V at hx ⊢
            clear x Lf4 Ld4 f4 d4
            have bV := hBx.trans (hx.mono hBx.size)
            have bV2 := hB2.trans (hx.mono hB2.size)
            clear hx
            have tj : ((j : Int) == (k : Int)) = false := by simp; omega
            clear jt j1 k1
            go_wp2
            go_roundw
            case rel => exact ⟨k + 1, by omega, by go_num, by rw [HQ.out], bV2⟩
            case measure => simp [RowKit.intOf]; omega
          · have tv : (z.v == y.v) = false := by simp [hv]
            have hnf : Hid (fstK L y.v (j + 1) = true) := Lib.hid (by rw [HFJ.out]; simp [hv])
            go_wp2_with fail
            refine region_later W.heap.size (by kernel_rfl) (by kernel_rfl) ?_
            repeat (go_big_quiet_step (fail))
            refine wpQuiet_nil ?_
            intro x
            have hx := x.below
            generalize x.at = V at hx ⊢
            clear x Lf4 Ld4 f4 d4
            have bV := hBx.trans (hx.mono hBx.size)
            have bV2 := hB2.trans (hx.mono hB2.size)
            clear hx
            clear jt j1 k1
            go_wp2
            go_roundw
            case rel => exact ⟨j + 1, by omega, by go_num, hnf.out, bV⟩
            case measure => simp [RowKit.intOf]; omega
        · have e : k = j := by omega
          subst e
          have HQ : Hid (unlK L (k + 1) = n0 + 1) := Lib.hid (by
            have h1 := HFM.out
            rw [HF.out] at h1
            rw [HUS.out, if_neg (by simpa using h1.symm)])
          have jt : decide ((k : Int) < (k : Int)) = false := by simp
          have tj : ((k : Int) == (k : Int)) = true := by simp
          have hn9 : (n0 : Int) ≤ 100000 := by omega
          obtain ⟨W, rfl⟩ : ∃ W, W = wr := ⟨_, rfl⟩
          go_wp2_with fail
          refine region_later W.heap.size (by kernel_rfl) (by kernel_rfl) ?_
          repeat (go_big_quiet_step (fail))
          refine wpQuiet_nil ?_
          intro x
          have hx := x.below
          generalize x.at = V at hx ⊢
          clear x d4 HC HFS HFM HUS HF jt
          have bV2 := hB2.trans (hx.mono hB2.size)
          clear hx
          go_wp2
          go_roundw
          case rel => exact ⟨k + 1, by omega, by go_num, by rw [HQ.out]; rfl, bV2⟩
          case measure => simp [RowKit.intOf]; omega
    · obtain rfl : k = L.length := by omega
      have e : unlK L L.length = R := by unfold unlK; rw [List.take_length]; exact HR.out
      rw [e]
      have kt : decide ((L.length : Int) < (L.length : Int)) = false := by simp
      clear e
      go_wp2
      go_ret
      exact ⟨rfl, hB⟩
end

end Go.Proofs.Ytnmjofccedjkkaa

namespace Go.Proofs.Ytnmjofccedjkkaa
open Go.RowKit Go.Maps
set_option maxRecDepth 100000

/-- Routes of the document's answer lie in a block. -/
def VBox (w : World) (b : Nat) (A : Option Addr) (l c : Nat) (most n h : Int) : Prop := w.cell? ⟨b, 0, none⟩ = some (.slice A l c) ∧ w.cell? ⟨b, 1, none⟩ = some (.int .i64 most) ∧ w.cell? ⟨b, 2, none⟩ = some (.int .i64 n) ∧ w.cell? ⟨b, 3, none⟩ = some (.int .i64 h) ∧ b < w.heap.size
theorem VBox.keep {w w' : World} {b l c : Nat} {A : Option Addr} {most n h : Int} (H : VBox w b A l c most n h) (hb : Below w.heap.size w w') : VBox w' b A l c most n h := by
  obtain ⟨h0, h1, h2, h3, hz⟩ := H
  exact ⟨(hb.cell hz).trans h0, (hb.cell hz).trans h1, (hb.cell hz).trans h2, (hb.cell hz).trans h3, Nat.lt_of_lt_of_le hz hb.size⟩
set_option maxHeartbeats 1000000 in
theorem knew5_any (w : World) : Calls Try.prog 37 #[] w fun e w' => e = .returned (.agg #[.slice none 0 0, .int .i64 2]) ∧ Below w.heap.size w w' := by
  go_enter Try.func37, Try.ntmps37
  go_wp2
  refine bodyPost_ret (v := .agg #[.slice none 0 0, .int .i64 2]) (by simp [*, results, Try.results37, go_sem] <;> rfl) rfl ⟨rfl, ?_⟩
  go_grown
set_option maxHeartbeats 1000000 in
theorem knew6_any (w : World) : Calls Try.prog 53 #[.int .i64 200, .int .i64 200] w fun e w' => e = .returned (.agg #[.slice none 0 0, .int .i64 2, .int .i64 200, .int .i64 200]) ∧ Below w.heap.size w w' := by
  go_enter Try.func53, Try.ntmps53
  go_wp2_with fail
  refine (knew5_any _).mono ?_
  rintro e w1 ⟨rfl, hw1⟩
  have b1 : Below w.heap.size w w1 := below_of (by go_grown) hw1
  have h3 : w1.heap[w.heap.size]? = some (.cells #[.slice none 0 0, .int .i64 0, .int .i64 0, .int .i64 0] 37 (0, 0)) := (hw1.block (w.heap.size) (by go_size)).trans (by repeat (first | (refine hp_new ?_; (simp; done)) | (refine hp_old ?_ ?_; · (first | (simp; done) | (simp; omega)))))
  have r0 : w1.cell? ⟨w.heap.size, 0, none⟩ = some (.slice none 0 0) := by rw [cell_row h3]; rfl
  have r1 : w1.cell? ⟨w.heap.size, 1, none⟩ = some (.int .i64 0) := by rw [cell_row h3]; rfl
  have r2 : w1.cell? ⟨w.heap.size, 2, none⟩ = some (.int .i64 0) := by rw [cell_row h3]; rfl
  have r3 : w1.cell? ⟨w.heap.size, 3, none⟩ = some (.int .i64 0) := by rw [cell_row h3]; rfl
  have q0 := frozen_of_row w1 (w.heap.size) 0 _ _ h3
  have q1 := frozen_of_row w1 (w.heap.size) 1 _ _ h3
  have q2 := frozen_of_row w1 (w.heap.size) 2 _ _ h3
  have q3 := frozen_of_row w1 (w.heap.size) 3 _ _ h3
  clear hw1 h3
  go_wp2
  refine bodyPost_ret (v := .agg #[.slice none 0 0, .int .i64 2, .int .i64 200, .int .i64 200]) (by simp [*, results, Try.results53, go_sem] <;> rfl) rfl ⟨rfl, ?_⟩
  exact b1.trans (((((Below.refl _ _).setCell (by simp) _).setCell (by simp) _).setCell (by simp) _).setCell (by simp) _)
set_option maxHeartbeats 1000000 in
theorem kroute_any (x : Pr) (b : Bool) (w : World) : Calls Try.prog 125 #[.agg #[.int .u64 (u x.p.a.hi), .int .u64 (u x.p.a.lo), .bool x.p.a.v6, .int .i64 x.p.n, .int .i64 x.v], .bool b] w fun e w' => e = .returned (.tuple #[.agg #[.int .u64 (u x.p.a.hi), .int .u64 (u x.p.a.lo), .bool x.p.a.v6, .int .i64 x.p.n, .int .i64 x.v], .bool b]) ∧ Below w.heap.size w w' := by
  go_enter Try.func125, Try.ntmps125
  go_wp2
  refine bodyPost_ret (v := .tuple #[.agg #[.int .u64 (u x.p.a.hi), .int .u64 (u x.p.a.lo), .bool x.p.a.v6, .int .i64 x.p.n, .int .i64 x.v], .bool b]) (by simp [*, results, Try.results125, go_sem] <;> rfl) rfl ⟨rfl, ?_⟩
  go_grown

section
variable {w : World} {A : Option Addr} {c : Nat} {L : List Pr}
set_option maxHeartbeats 1000000 in
theorem kins6_any (hr : RdQ w A L) (hl : L.length ≤ 1000000) (most n h : Int) (p : Pf) : Calls Try.prog 61 #[.agg #[.slice A L.length c, .int .i64 most, .int .i64 n, .int .i64 h], .agg #[.int .u64 (u p.a.hi), .int .u64 (u p.a.lo), .bool p.a.v6, .int .i64 p.n]] w fun e w' => e = .returned (.bool (insL L p)) ∧ Below w.heap.size w w' := by
  have HRD := Lib.hid hr
  clear hr
  go_enter Try.func61, Try.ntmps61
  go_wp2_with fail
  refine (kins_any (HRD.out.keep (B := w.heap.size) (by go_grown) (Nat.le_refl _)) hl most p).mono ?_
  rintro e w1 ⟨rfl, hw1⟩
  have b1 : Below w.heap.size w w1 := below_of (by go_grown) hw1
  clear hw1
  go_wp2
  go_ret
  exact ⟨rfl, b1⟩
set_option maxHeartbeats 2000000 in
theorem kgov_any (hr : RdQ w A L) (hl : L.length ≤ 1000000) (most n h : Int) (p : Pf) : Calls Try.prog 98 #[.agg #[.slice A L.length c, .int .i64 most, .int .i64 n, .int .i64 h], .agg #[.int .u64 (u p.a.hi), .int .u64 (u p.a.lo), .bool p.a.v6, .int .i64 p.n]] w (OptPost w (govL L p)) := by
  have HRD := Lib.hid hr
  clear hr
  have hfl := List.length_filter_le (fun x : Pr => pcov x.p p) L
  have ca := fun W (hr : RdQ W A L) => kabove_any (c := c) hr hl most p
  unfold govL
  obtain ⟨F, hF⟩ : ∃ F, (L.filter fun x => pcov x.p p) = F := ⟨_, rfl⟩
  rw [hF] at hfl ca ⊢
  have CA := Lib.hid ca
  clear ca hF
  go_enter Try.func98, Try.ntmps98
  go_wp2_with fail
  refine (CA.out _ (HRD.out.keep (B := w.heap.size) (by go_grown) (Nat.le_refl _))).mono ?_
  rintro e w5 ⟨v5, rfl, ho5, hw5⟩
  have b5 : Below w.heap.size w w5 := below_of (by go_grown) hw5
  have h5 : w5.heap[w.heap.size + 1 + 1]? = some (.cells #[.int .u64 0, .int .u64 0, .bool false, .int .i64 0, .int .i64 0] 29 (0, 0)) := (hw5.block (w.heap.size + 1 + 1) (by go_size)).trans (by repeat (first | (refine hp_new ?_; (simp; done)) | (refine hp_old ?_ ?_; · (first | (simp; done) | (simp; omega)))))
  have z5 := lt_of_block h5
  have HO := Lib.hid ho5
  obtain ⟨A5, c5, rfl, -⟩ := own_val ho5
  clear ho5 hw5 CA HRD
  rcases Nat.eq_zero_or_pos F.length with hl0 | hl0
  · have hF0 : F = [] := List.eq_nil_of_length_eq_zero hl0
    subst hF0
    have r0 : w5.cell? ⟨w.heap.size + 1 + 1, 0, none⟩ = some (.int .u64 0) := by rw [cell_row h5]; rfl
    have r1 : w5.cell? ⟨w.heap.size + 1 + 1, 1, none⟩ = some (.int .u64 0) := by rw [cell_row h5]; rfl
    have r2 : w5.cell? ⟨w.heap.size + 1 + 1, 2, none⟩ = some (.bool false) := by rw [cell_row h5]; rfl
    have r3 : w5.cell? ⟨w.heap.size + 1 + 1, 3, none⟩ = some (.int .i64 0) := by rw [cell_row h5]; rfl
    have r4 : w5.cell? ⟨w.heap.size + 1 + 1, 4, none⟩ = some (.int .i64 0) := by rw [cell_row h5]; rfl
    have q0 := frozen_of_row w5 (w.heap.size + 1 + 1) 0 _ _ h5
    have q1 := frozen_of_row w5 (w.heap.size + 1 + 1) 1 _ _ h5
    have q2 := frozen_of_row w5 (w.heap.size + 1 + 1) 2 _ _ h5
    have q3 := frozen_of_row w5 (w.heap.size + 1 + 1) 3 _ _ h5
    have q4 := frozen_of_row w5 (w.heap.size + 1 + 1) 4 _ _ h5
    clear h5
    go_wp2
    refine bodyPost_ret (v := .tuple #[.agg #[.int .u64 0, .int .u64 0, .bool false, .int .i64 0, .int .i64 0], .bool false]) (by simp [*, results, Try.results98, go_sem] <;> rfl) rfl ⟨rfl, ?_⟩
    exact b5.trans ((((((Below.refl _ _).setCell (by simp; omega) _).setCell (by simp; omega) _).setCell (by simp; omega) _).setCell (by simp; omega) _).setCell (by simp; omega) _)
  · obtain ⟨k, hk⟩ : ∃ k, F.length = k + 1 := ⟨F.length - 1, by omega⟩
    have hkl : k < F.length := by omega
    have hgo : F.getLast? = some F[k] := by
      rw [List.getLast?_eq_getElem?, hk, Nat.add_sub_cancel, List.getElem?_eq_getElem hkl]
    obtain ⟨g, cg, eg, -, zg, hcc⟩ := row_cell HO.out rfl hkl
    simp only [Value.slice.injEq, true_and] at eg
    obtain ⟨rfl, rfl⟩ := eg
    have m0 : w5.cell? ⟨g, k * 5, none⟩ = some (.int .u64 (u F[k].p.a.hi)) := hcc 0 (by omega)
    have m1 : w5.cell? ⟨g, k * 5 + 1, none⟩ = some (.int .u64 (u F[k].p.a.lo)) := hcc 1 (by omega)
    have m2 : w5.cell? ⟨g, k * 5 + 2, none⟩ = some (.bool F[k].p.a.v6) := hcc 2 (by omega)
    have m3 : w5.cell? ⟨g, k * 5 + 3, none⟩ = some (.int .i64 F[k].p.n) := hcc 3 (by omega)
    have m4 : w5.cell? ⟨g, k * 5 + 4, none⟩ = some (.int .i64 F[k].v) := hcc 4 (by omega)
    generalize F[k] = y at m0 m1 m2 m3 m4 hgo
    have HGO := Lib.hid hgo
    obtain ⟨K, hK⟩ : ∃ K, F.length = K := ⟨_, rfl⟩
    have t1 : ((K : Int) == 0) = false := by simp; omega
    have hkk : (K : Int) - 1 = (k : Int) := by omega
    have hkn : k < K := by omega
    have hk9 : K ≤ 5000000 := by omega
    rw [hK]
    clear hK
    have Z5 := Lib.hid z5
    clear hk hkl hl0 hfl hgo hcc HO hl z5
    go_wp2_with fail
    refine (kroute_any y true _).mono ?_
    rintro e w6 ⟨rfl, hw6⟩
    have h6 := (hw6.block (w.heap.size + 1 + 1) Z5.out).trans h5
    have b6 := b5.trans (hw6.mono b5.size)
    have r0 : w6.cell? ⟨w.heap.size + 1 + 1, 0, none⟩ = some (.int .u64 0) := by rw [cell_row h6]; rfl
    have r1 : w6.cell? ⟨w.heap.size + 1 + 1, 1, none⟩ = some (.int .u64 0) := by rw [cell_row h6]; rfl
    have r2 : w6.cell? ⟨w.heap.size + 1 + 1, 2, none⟩ = some (.bool false) := by rw [cell_row h6]; rfl
    have r3 : w6.cell? ⟨w.heap.size + 1 + 1, 3, none⟩ = some (.int .i64 0) := by rw [cell_row h6]; rfl
    have r4 : w6.cell? ⟨w.heap.size + 1 + 1, 4, none⟩ = some (.int .i64 0) := by rw [cell_row h6]; rfl
    have q0 := frozen_of_row w6 (w.heap.size + 1 + 1) 0 _ _ h6
    have q1 := frozen_of_row w6 (w.heap.size + 1 + 1) 1 _ _ h6
    have q2 := frozen_of_row w6 (w.heap.size + 1 + 1) 2 _ _ h6
    have q3 := frozen_of_row w6 (w.heap.size + 1 + 1) 3 _ _ h6
    have q4 := frozen_of_row w6 (w.heap.size + 1 + 1) 4 _ _ h6
    clear h6 h5 hw6 m0 m1 m2 m3 m4
    go_wp2
    refine bodyPost_ret (v := .tuple #[.agg #[.int .u64 (u y.p.a.hi), .int .u64 (u y.p.a.lo), .bool y.p.a.v6, .int .i64 y.p.n, .int .i64 y.v], .bool true]) (by simp [*, results, Try.results98, go_sem] <;> rfl) rfl ⟨by rw [HGO.out]; rfl, ?_⟩
    exact b6.trans ((((((Below.refl _ _).setCell (by simp; omega) _).setCell (by simp; omega) _).setCell (by simp; omega) _).setCell (by simp; omega) _).setCell (by simp; omega) _)
end

end Go.Proofs.Ytnmjofccedjkkaa
