/-
  kedgeref05's Pairs says yes to a row of one's own and a row that lies as a slice says, of the same pairs.
-/
import Derived.Test.YtkgjogkbdkdogaaX4
import Derived.Test.YtkgjogkbdkdogaaX3
import Derived.Test.YtkgjogkbdkdogaaX2
import Derived.Test.YtkgjogkbdkdogaaX1
namespace Go.Proofs.Ytkgjogkbdkdogaa
open Go.RowKit Go.Maps
set_option maxRecDepth 100000

theorem rdq_off {S : Nat → Prop} {w w' : World} {A : Option Addr} {ls : List Pr} (h : RdQ w A ls) (hf : Frm S w w') (hs : ∀ g off, A = some ⟨g, off, none⟩ → ls ≠ [] → ¬ S g) : RdQ w' A ls := fun hn => by
  obtain ⟨g, off, e, hg, hc⟩ := h hn
  have hS := hs g off e hn
  refine ⟨g, off, e, Nat.lt_of_lt_of_le hg hf.size, fun i hi => ?_⟩
  obtain ⟨c0, c1, c2, c3, c4⟩ := hc i hi
  exact ⟨(hf.cell (p := ⟨g, off + i * 5, none⟩) hg hS).trans c0, (hf.cell (p := ⟨g, off + i * 5 + 1, none⟩) hg hS).trans c1, (hf.cell (p := ⟨g, off + i * 5 + 2, none⟩) hg hS).trans c2, (hf.cell (p := ⟨g, off + i * 5 + 3, none⟩) hg hS).trans c3, (hf.cell (p := ⟨g, off + i * 5 + 4, none⟩) hg hS).trans c4⟩
theorem rdq_lt {w : World} {A : Option Addr} {ls : List Pr} (h : RdQ w A ls) : ∀ g off, A = some ⟨g, off, none⟩ → ls ≠ [] → g < w.heap.size := fun g off e hn => by
  obtain ⟨g', off', e', hg, -⟩ := h hn
  rw [e] at e'
  simp only [Option.some.injEq, Addr.mk.injEq, and_true] at e'
  rw [e'.1]
  exact hg
theorem putM_cast {p : Pf} {v : Int} {L : List Pr} {most : Nat} (hp : psane p = true) (hs : Srt L) : ((putM p v L most : Nat) : Int) = max (most : Int) (nodesL (putL p v L)) := by
  have h2 := (nodes_bd (putL p v L) (fun y hy => (put_srt (v := v) hs hp).1 y hy)).1
  unfold putM
  rw [if_pos hp]
  omega

theorem delQ_nil (p : Pf) : delQ p [] = [] := by
  unfold delQ delL
  simp
def DidPost (w : World) (A : Option Addr) (x : Ac) (L : List Pr) (most : Nat) (e : Ending) (w' : World) : Prop := ∃ A' c', e = .returned (.tuple #[.agg #[.slice A' (doQ x L).length c', .int .i64 ((doM x L most : Nat) : Int)], .int .i64 (doE x L)]) ∧ RdQ w' A' (doQ x L) ∧ (∀ g off, A' = some ⟨g, off, none⟩ → doQ x L ≠ [] → (A' = A ∧ L ≠ []) ∨ w.heap.size ≤ g) ∧ Below w.heap.size w w'
variable {w : World} {A : Option Addr} {L : List Pr} {c : Nat}
set_option maxHeartbeats 4000000 in
theorem did_any (hr : RdQ w A L) (hs : Srt L) (hl : L.length ≤ 10000) {most : Nat} (hm : most ≤ 1000000000) (x : Ac) : Calls Try.prog 8 #[.agg #[.slice A L.length c, .int .i64 (most : Int)], .agg #[.bool x.out, .int .u64 (u x.p.a.hi), .int .u64 (u x.p.a.lo), .bool x.p.a.v6, .int .i64 x.p.n, .int .i64 x.v]] w (DidPost w A x L most) := by
  have HR := Lib.hid hr
  have HL := Lib.hid hl
  have HS := Lib.hid hs
  have HM := Lib.hid hm
  clear hr hl hs hm
  unfold DidPost
  cases hx : x.out
  · have HD : Hid (doQ x L = putQ x.p x.v L ∧ doM x L most = putM x.p x.v L most ∧ doE x L = putE x.p) := by unfold doQ doM doE; rw [hx]; exact ⟨rfl, rfl, rfl⟩
    clear hx
    cases hp : psane x.p
    · have HE : Hid (doQ x L = L ∧ doM x L most = most ∧ doE x L = 1) := by
        refine Lib.hid ?_
        rw [HD.out.1, HD.out.2.1, HD.out.2.2]
        unfold putQ putM putE
        simp [hp]
      have HP := Lib.hid hp
      clear hp HD
      go_enter Try.func8, Try.ntmps8
      go_wp2_with fail
      refine (kput_no (A := A) (L := L) (c := c) (most : Int) x.p x.v HP.out).mono ?_
      rintro e w1 ⟨rfl, h3⟩
      have hsz : w.heap.size + 1 + 1 + 1 ≤ w1.heap.size := by have := h3.size; simp at this; omega
      have h4 : w1.heap[w.heap.size + 1 + 1]? = some (.cells #[.slice none 0 0, .int .i64 0] 33 (0, 0)) := (h3.block (w.heap.size + 1 + 1) (by go_size)).trans (by repeat (first | (refine hp_new ?_; (simp; done)) | (refine hp_old ?_ ?_; · (first | (simp; done) | (simp; omega)))))
      have r0 : w1.cell? ⟨w.heap.size + 1 + 1, 0, none⟩ = some (.slice none 0 0) := by rw [cell_row h4]; rfl
      have r1 : w1.cell? ⟨w.heap.size + 1 + 1, 1, none⟩ = some (.int .i64 0) := by rw [cell_row h4]; rfl
      have q0 := frozen_of_row w1 (w.heap.size + 1 + 1) 0 _ _ h4
      have q1 := frozen_of_row w1 (w.heap.size + 1 + 1) 1 _ _ h4
      have b1 : Below w.heap.size w w1 := below_of (by go_grown) h3
      have HB := Lib.hid b1
      clear h3 h4 b1
      go_wp2
      refine bodyPost_ret (v := .tuple #[.agg #[.slice A L.length c, .int .i64 (most : Int)], .int .i64 1]) (by simp [*, results, Try.results8, go_sem] <;> rfl) rfl ⟨A, c, by rw [HE.out.1, HE.out.2.1, HE.out.2.2], ?_, fun g off _ hn => .inl ⟨rfl, fun hl => hn (by rw [HE.out.1]; exact hl)⟩, HB.out.trans (((Below.refl _ _).setCell (by simp; omega) _).setCell (by simp; omega) _)⟩
      rw [HE.out.1]
      exact HR.out.keep (HB.out.trans (((Below.refl _ _).setCell (by simp; omega) _).setCell (by simp; omega) _)) (Nat.le_refl _)
    · have HE : Hid (doQ x L = putL x.p x.v L ∧ ((doM x L most : Nat) : Int) = max (most : Int) (nodesL (putL x.p x.v L)) ∧ doE x L = 0) := by
        refine Lib.hid ?_
        rw [HD.out.1, HD.out.2.1, HD.out.2.2, putM_cast hp HS.out]
        unfold putQ putE
        simp [hp]
      have HP := Lib.hid hp
      clear hp HD
      go_enter Try.func8, Try.ntmps8
      go_wp2_with fail
      refine (kput_yes (A := A) (L := L) (c := c) (HR.out.keep (by go_grown) (Nat.le_refl _)) HS.out HL.out (most : Int) (by have := HM.out; omega) x.p x.v HP.out).mono ?_
      rintro e w1 ⟨A', c', rfl, h1, h2, h3⟩
      have hsz : w.heap.size + 1 + 1 + 1 ≤ w1.heap.size := by have := h3.size; simp at this; omega
      have h4 : w1.heap[w.heap.size + 1 + 1]? = some (.cells #[.slice none 0 0, .int .i64 0] 33 (0, 0)) := (h3.block (w.heap.size + 1 + 1) (by go_size)).trans (by repeat (first | (refine hp_new ?_; (simp; done)) | (refine hp_old ?_ ?_; · (first | (simp; done) | (simp; omega)))))
      have r0 : w1.cell? ⟨w.heap.size + 1 + 1, 0, none⟩ = some (.slice none 0 0) := by rw [cell_row h4]; rfl
      have r1 : w1.cell? ⟨w.heap.size + 1 + 1, 1, none⟩ = some (.int .i64 0) := by rw [cell_row h4]; rfl
      have q0 := frozen_of_row w1 (w.heap.size + 1 + 1) 0 _ _ h4
      have q1 := frozen_of_row w1 (w.heap.size + 1 + 1) 1 _ _ h4
      have b1 : Below w.heap.size w w1 := below_of (by go_grown) h3
      have HB := Lib.hid b1
      have H1 := Lib.hid h1
      have H2 := Lib.hid h2
      have HZ := Lib.hid hsz
      clear h1 h2 h3 h4 b1
      go_wp2
      refine bodyPost_ret (v := .tuple #[.agg #[.slice A' (putL x.p x.v L).length c', .int .i64 (max (most : Int) (nodesL (putL x.p x.v L)))], .int .i64 0]) (by simp [*, results, Try.results8, go_sem] <;> rfl) rfl ⟨A', c', by rw [HE.out.1, HE.out.2.1, HE.out.2.2], ?_, ?_, HB.out.trans (((Below.refl _ _).setCell (by simp; omega) _).setCell (by simp; omega) _)⟩
      · rw [HE.out.1]
        refine rdq_off (S := fun b => b = w.heap.size + 1 + 1) H1.out (((Frm.refl (fun b => b = w.heap.size + 1 + 1) w1).setCell (p := ⟨w.heap.size + 1 + 1, 0, none⟩) (.inl rfl) _).setCell (p := ⟨w.heap.size + 1 + 1, 1, none⟩) (.inl rfl) _) ?_
        intro g off e hn hg
        have := H2.out g off e hn
        simp at this
        omega
      · rw [HE.out.1]
        intro g off e hn
        have := H2.out g off e hn
        simp at this
        exact .inr (by omega)
  · have HE : Hid (doQ x L = delQ x.p L ∧ doM x L most = most ∧ doE x L = delE x.p L) := by unfold doQ doM doE; rw [hx]; exact ⟨rfl, rfl, rfl⟩
    clear hx
    go_enter Try.func8, Try.ntmps8
    go_wp2_with fail
    refine (kdel_any (A := A) (L := L) (c := c) (HR.out.keep (by go_grown) (Nat.le_refl _)) HL.out (most : Int) x.p).mono ?_
    rintro e w1 ⟨A', c', rfl, h1, h2, h3⟩
    have hsz : w.heap.size + 1 + 1 + 1 ≤ w1.heap.size := by have := h3.size; simp at this; omega
    have h4 : w1.heap[w.heap.size + 1 + 1]? = some (.cells #[.slice none 0 0, .int .i64 0] 33 (0, 0)) := (h3.block (w.heap.size + 1 + 1) (by go_size)).trans (by repeat (first | (refine hp_new ?_; (simp; done)) | (refine hp_old ?_ ?_; · (first | (simp; done) | (simp; omega)))))
    have r0 : w1.cell? ⟨w.heap.size + 1 + 1, 0, none⟩ = some (.slice none 0 0) := by rw [cell_row h4]; rfl
    have r1 : w1.cell? ⟨w.heap.size + 1 + 1, 1, none⟩ = some (.int .i64 0) := by rw [cell_row h4]; rfl
    have q0 := frozen_of_row w1 (w.heap.size + 1 + 1) 0 _ _ h4
    have q1 := frozen_of_row w1 (w.heap.size + 1 + 1) 1 _ _ h4
    have b1 : Below w.heap.size w w1 := below_of (by go_grown) h3
    have HB := Lib.hid b1
    have H1 := Lib.hid h1
    have H2 := Lib.hid h2
    have HZ := Lib.hid hsz
    clear h1 h2 h3 h4 b1
    go_wp2
    refine bodyPost_ret (v := .tuple #[.agg #[.slice A' (delQ x.p L).length c', .int .i64 (most : Int)], .int .i64 (delE x.p L)]) (by simp [*, results, Try.results8, go_sem] <;> rfl) rfl ⟨A', c', by rw [HE.out.1, HE.out.2.1, HE.out.2.2], ?_, ?_, HB.out.trans (((Below.refl _ _).setCell (by simp; omega) _).setCell (by simp; omega) _)⟩
    · rw [HE.out.1]
      refine rdq_off (S := fun b => b = w.heap.size + 1 + 1) H1.out (((Frm.refl (fun b => b = w.heap.size + 1 + 1) w1).setCell (p := ⟨w.heap.size + 1 + 1, 0, none⟩) (.inl rfl) _).setCell (p := ⟨w.heap.size + 1 + 1, 1, none⟩) (.inl rfl) _) ?_
      intro g off e hn hg
      rcases H2.out g (by rw [e]; rfl) with h | h
      · have hne := rdq_lt HR.out g off (h ▸ e) (fun hl => hn (by rw [hl]; exact delQ_nil _))
        omega
      · simp at h
        omega
    · intro g off e hn
      rcases H2.out g (by rw [e]; rfl) with h | h
      · exact .inl ⟨h, fun hl => hn (by rw [HE.out.1, hl]; exact delQ_nil _)⟩
      · simp at h
        exact .inr (by omega)

end Go.Proofs.Ytkgjogkbdkdogaa

namespace Go.Proofs.Ytkgjogkbdkdogaa
open Go.RowKit Go.Maps
set_option maxRecDepth 100000

def lgK (L : List Pr) (a : Ad) (k : Nat) : Option Pr := ((L.take k).filter fun x => pcon x.p a).getLast?
theorem lgK_succ (L : List Pr) (a : Ad) {k : Nat} (h : k < L.length) : lgK L a (k + 1) = if pcon L[k].p a = true then some L[k] else lgK L a k := by
  unfold lgK
  rw [List.take_succ_eq_append_getElem h, List.filter_append]
  by_cases hc : pcon L[k].p a = true
  · have e : [L[k]].filter (fun x => pcon x.p a) = [L[k]] := by simp [hc]
    rw [if_pos hc, e]
    simp
  · have e : [L[k]].filter (fun x => pcon x.p a) = [] := by simp [hc]
    rw [if_neg hc, e]
    simp
theorem lgK_all (L : List Pr) (a : Ad) : lgK L a L.length = longL L a := by
  unfold lgK longL
  rw [List.take_length]
theorem lgK_lt {L : List Pr} (hs : Srt L) {a : Ad} {k : Nat} (h : k < L.length) {b : Pr} (hb : lgK L a k = some b) (hc : pcon L[k].p a = true) : b.p.n < L[k].p.n := by
  unfold lgK at hb
  have hm := List.mem_of_getLast? hb
  obtain ⟨h1, h2⟩ := List.mem_filter.1 hm
  obtain ⟨j, hj, rfl⟩ := List.mem_iff_getElem.1 h1
  rw [List.length_take] at hj
  rw [List.getElem_take] at h2 ⊢
  exact con_lt' h2 hc (List.pairwise_iff_getElem.1 hs.2 j k (by omega) h (by omega))
def PBlk (w : World) (b : Nat) (x : Pr) : Prop := w.heap[b]? = some (.cells #[.int .u64 (u x.p.a.hi), .int .u64 (u x.p.a.lo), .bool x.p.a.v6, .int .i64 x.p.n, .int .i64 x.v] 67 (0, 0))
theorem PBlk.keep {w w' : World} {b : Nat} {x : Pr} (h : PBlk w b x) (hb : Below w.heap.size w w') : PBlk w' b x := (hb.block _ (lt_of_block h)).trans h
theorem PBlk.five {w : World} {b : Nat} {x : Pr} (h : PBlk w b x) : w.cell? ⟨b, 0, none⟩ = some (.int .u64 (u x.p.a.hi)) ∧ w.cell? ⟨b, 1, none⟩ = some (.int .u64 (u x.p.a.lo)) ∧ w.cell? ⟨b, 2, none⟩ = some (.bool x.p.a.v6) ∧ w.cell? ⟨b, 3, none⟩ = some (.int .i64 x.p.n) ∧ w.cell? ⟨b, 4, none⟩ = some (.int .i64 x.v) ∧ b < w.heap.size :=
  ⟨(cell_of_row w b 0 _ _ _ h).trans rfl, (cell_of_row w b 1 _ _ _ h).trans rfl, (cell_of_row w b 2 _ _ _ h).trans rfl, (cell_of_row w b 3 _ _ _ h).trans rfl, (cell_of_row w b 4 _ _ _ h).trans rfl, lt_of_block h⟩
theorem size_kpair : (Try.prog.info? 67).map (·.size) = some 5 := by kernel_rfl
variable {w : World} {A : Option Addr} {L : List Pr} {c : Nat}
set_option maxHeartbeats 4000000 in
theorem klongest_any (hr : RdQ w A L) (hsr : Srt L) (hl : L.length ≤ 10000) (most : Int) (a : Ad) : Calls Try.prog 24 #[.agg #[.slice A L.length c, .int .i64 most], .agg #[.int .u64 (u a.hi), .int .u64 (u a.lo), .bool a.v6]] w (OptPost w (longL L a)) := by
  have HR := Lib.hid hr
  have HL := Lib.hid hl
  have HS := Lib.hid hsr
  clear hr hl hsr
  unfold OptPost
  go_enter Try.func24, Try.ntmps24
  go_upto_region 1 with fail
  generalize hV : World.alloc _ _ = w1
  have b1 : Below w.heap.size w w1 := by subst hV; go_grown
  have HT1 : Hid (KBox w1 w.heap.size A L.length c most) := Lib.hid (by subst hV; exact ⟨by go_simp <;> rfl, by go_simp <;> rfl, by go_size⟩)
  have HA1 : Hid (ABox w1 (w.heap.size + 1) a) := Lib.hid (by subst hV; exact ⟨by go_simp <;> rfl, by go_simp <;> rfl, by go_simp <;> rfl, by go_size⟩)
  have HQ1 : Hid (PBlk w1 (w.heap.size + 1 + 1) nilPr) := Lib.hid (by subst hV; unfold PBlk; repeat (first | (refine hp_new ?_; (simp; done)) | (refine hp_old ?_ ?_; · (first | (simp; done) | (simp; omega)))))
  have HR1 := Lib.hid (HR.out.keep b1 (Nat.le_refl _))
  have zq := lt_of_block HQ1.out
  clear hV HR
  go_upto_region 2 with fail
  generalize hV : World.alloc _ _ = w2
  have e2 : Below w1.heap.size w1 w2 := by subst hV; go_grown
  have HB2 : Hid (PBlk w2 w1.heap.size nilPr) := Lib.hid (by subst hV; unfold PBlk; repeat (first | (refine hp_new ?_; (simp; done)) | (refine hp_old ?_ ?_; · (first | (simp; done) | (simp; omega)))))
  clear hV
  obtain ⟨k0, k1, kz⟩ := id (HT1.out.keep e2)
  go_wp2_with fail
  clear k0 k1 kz
  go_loopw [7, 8] (fun okv i wr => ∃ k : Nat, okv = .bool (lgK L a k).isSome ∧ k ≤ L.length ∧ i = .int .i64 k ∧ Hid (PBlk wr w1.heap.size ((lgK L a k).getD nilPr)) ∧ Below w1.heap.size w1 wr) (fun _ i _ => L.length - (RowKit.intOf i).toNat)
  case atStart => exact ⟨0, rfl, Nat.zero_le _, rfl, HB2, e2⟩
  case round =>
    obtain ⟨k, rfl, hk, rfl, hb, hB⟩ := hrel
    have hk9 : k ≤ 10000 := by have := HL.out; omega
    obtain ⟨W, rfl⟩ : ∃ W, W = wr := ⟨_, rfl⟩
    have HB := Lib.hid hB
    have HTW := Lib.hid (HT1.out.keep hB)
    have HAW := Lib.hid (HA1.out.keep hB)
    obtain ⟨k0, k1, kz⟩ := id HTW.out
    have zW := hB.size
    clear e2 HB2
    by_cases hlt : k < L.length
    · have hlt' : decide ((k : Int) < (L.length : Int)) = true := decide_eq_true (by omega)
      obtain ⟨g, off, hA, hX⟩ := rdq_fbox (HR1.out.keep hB (Nat.le_refl _)) hlt
      subst hA
      have hi1 := fun V => idx_rpair g off L.length c k hlt V
      have hsu := lgK_succ L a hlt
      have hgt := fun b (h : lgK L a k = some b) hc => lgK_lt HS.out hlt h hc
      obtain ⟨x, hx⟩ : ∃ x, L[k] = x := ⟨_, rfl⟩
      rw [hx] at hX hsu
      have hgt2 : ∀ b, lgK L a k = some b → pcon x.p a = true → b.p.n < x.p.n := fun b h hc => by
        have := hgt b h (by rw [hx]; exact hc)
        rwa [hx] at this
      have HSU := Lib.hid hsu
      have HLT := Lib.hid hlt
      have HX := Lib.hid hX
      have HGT := Lib.hid hgt2
      have cj := fun V => rpcon_any x.p a V
      clear hgt hgt2 hsu hx hlt hk hB k1
      cases hbo : lgK L a k
      all_goals
        rw [hbo] at hb
        have HBO := Lib.hid hbo
        clear hbo
        cases hcc : pcon x.p a
      all_goals
        rw [hcc] at cj
        have CJ := Lib.hid cj
        have HCC := Lib.hid hcc
        clear cj hcc
      · obtain ⟨m0, m1, m2, m3, m4, zm⟩ := id HX.out
        obtain ⟨pa, pb, pc, pz⟩ := id HAW.out
        obtain ⟨n0, n1, n2, n3, n4, zn⟩ := hb.out.five
        have Lk0 := fun q : Later W.heap.size W => (q.cell kz).trans k0
        have Lm0 := fun q : Later W.heap.size W => (q.cell (p := ⟨g, off + k * 5, none⟩) zm).trans m0
        have Lm1 := fun q : Later W.heap.size W => (q.cell (p := ⟨g, off + k * 5 + 1, none⟩) zm).trans m1
        have Lm2 := fun q : Later W.heap.size W => (q.cell (p := ⟨g, off + k * 5 + 2, none⟩) zm).trans m2
        have Lm3 := fun q : Later W.heap.size W => (q.cell (p := ⟨g, off + k * 5 + 3, none⟩) zm).trans m3
        have Lpa := fun q : Later W.heap.size W => (q.cell pz).trans pa
        have Lpb := fun q : Later W.heap.size W => (q.cell pz).trans pb
        have Lpc := fun q : Later W.heap.size W => (q.cell pz).trans pc
        have Ln3 := fun q : Later W.heap.size W => (q.cell zn).trans n3
        go_upto_region 6 with fail
        clear hlt' m0 m1 m2 m3 m4 pa pb pc n0 n1 n2 n3 n4 k0
        refine region_later W.heap.size (by kernel_rfl) (by kernel_rfl) ?_
        repeat (go_big_quiet_step ((go_at_call 47; exact later_of (Nat.le_refl _) (CJ.out _))))
        refine wpQuiet_nil ?_
        intro q
        have hq := q.below
        generalize q.at = V at hq ⊢
        clear q Lk0 Lm0 Lm1 Lm2 Lm3 Lpa Lpb Lpc Ln3
        have bV := HB.out.trans (hq.mono HB.out.size)
        have zV := bV.size
        have HBV := Lib.hid (hb.out.keep hq)
        obtain ⟨m0, m1, m2, m3, m4, zm⟩ := HX.out.keep hq
        obtain ⟨k0, -, kz⟩ := HTW.out.keep hq
        clear hq zW
        clear m0 m1 m2 m3 m4 k0 hi1
        go_wp2
        go_roundw
        case rel => exact ⟨k + 1, by rw [HSU.out, HCC.out, HBO.out]; rfl, HLT.out, by go_num, Lib.hid (by rw [HSU.out, HCC.out, HBO.out]; exact HBV.out), bV⟩
        case measure => simp [RowKit.intOf]; have := HLT.out; omega
      · obtain ⟨m0, m1, m2, m3, m4, zm⟩ := id HX.out
        obtain ⟨pa, pb, pc, pz⟩ := id HAW.out
        obtain ⟨n0, n1, n2, n3, n4, zn⟩ := hb.out.five
        have Lk0 := fun q : Later W.heap.size W => (q.cell kz).trans k0
        have Lm0 := fun q : Later W.heap.size W => (q.cell (p := ⟨g, off + k * 5, none⟩) zm).trans m0
        have Lm1 := fun q : Later W.heap.size W => (q.cell (p := ⟨g, off + k * 5 + 1, none⟩) zm).trans m1
        have Lm2 := fun q : Later W.heap.size W => (q.cell (p := ⟨g, off + k * 5 + 2, none⟩) zm).trans m2
        have Lm3 := fun q : Later W.heap.size W => (q.cell (p := ⟨g, off + k * 5 + 3, none⟩) zm).trans m3
        have Lpa := fun q : Later W.heap.size W => (q.cell pz).trans pa
        have Lpb := fun q : Later W.heap.size W => (q.cell pz).trans pb
        have Lpc := fun q : Later W.heap.size W => (q.cell pz).trans pc
        have Ln3 := fun q : Later W.heap.size W => (q.cell zn).trans n3
        go_upto_region 6 with fail
        clear hlt' m0 m1 m2 m3 m4 pa pb pc n0 n1 n2 n3 n4 k0
        refine region_later W.heap.size (by kernel_rfl) (by kernel_rfl) ?_
        repeat (go_big_quiet_step ((go_at_call 47; exact later_of (Nat.le_refl _) (CJ.out _))))
        refine wpQuiet_nil ?_
        intro q
        have hq := q.below
        generalize q.at = V at hq ⊢
        clear q Lk0 Lm0 Lm1 Lm2 Lm3 Lpa Lpb Lpc Ln3
        have bV := HB.out.trans (hq.mono HB.out.size)
        have zV := bV.size
        have HBV := Lib.hid (hb.out.keep hq)
        obtain ⟨m0, m1, m2, m3, m4, zm⟩ := HX.out.keep hq
        obtain ⟨k0, -, kz⟩ := HTW.out.keep hq
        clear hq zW
        go_upto_region 7 with fail
        go_wp2_with (refine wpList_row rfl _ _ _ rfl w1.heap.size _ rfl rfl 67 _ (HBV.out) 5 size_kpair rfl rfl rfl ?_; intro w9 h9 f9; have b9 : Below w1.heap.size w1 w9 := bV.trans (f9.below (fun b hb => by omega) (by omega)); have H9 := Lib.hid h9; clear h9 f9 m0 m1 m2 m3 m4 k0 hi1)
        go_roundw
        case rel => exact ⟨k + 1, by rw [HSU.out, HCC.out]; rfl, HLT.out, by go_num, Lib.hid (by rw [HSU.out, HCC.out]; exact H9.out), b9⟩
        case measure => simp [RowKit.intOf]; have := HLT.out; omega
      · obtain ⟨m0, m1, m2, m3, m4, zm⟩ := id HX.out
        obtain ⟨pa, pb, pc, pz⟩ := id HAW.out
        obtain ⟨n0, n1, n2, n3, n4, zn⟩ := hb.out.five
        have Lk0 := fun q : Later W.heap.size W => (q.cell kz).trans k0
        have Lm0 := fun q : Later W.heap.size W => (q.cell (p := ⟨g, off + k * 5, none⟩) zm).trans m0
        have Lm1 := fun q : Later W.heap.size W => (q.cell (p := ⟨g, off + k * 5 + 1, none⟩) zm).trans m1
        have Lm2 := fun q : Later W.heap.size W => (q.cell (p := ⟨g, off + k * 5 + 2, none⟩) zm).trans m2
        have Lm3 := fun q : Later W.heap.size W => (q.cell (p := ⟨g, off + k * 5 + 3, none⟩) zm).trans m3
        have Lpa := fun q : Later W.heap.size W => (q.cell pz).trans pa
        have Lpb := fun q : Later W.heap.size W => (q.cell pz).trans pb
        have Lpc := fun q : Later W.heap.size W => (q.cell pz).trans pc
        have Ln3 := fun q : Later W.heap.size W => (q.cell zn).trans n3
        go_upto_region 6 with fail
        clear hlt' m0 m1 m2 m3 m4 pa pb pc n0 n1 n2 n3 n4 k0
        refine region_later W.heap.size (by kernel_rfl) (by kernel_rfl) ?_
        repeat (go_big_quiet_step ((go_at_call 47; exact later_of (Nat.le_refl _) (CJ.out _))))
        refine wpQuiet_nil ?_
        intro q
        have hq := q.below
        generalize q.at = V at hq ⊢
        clear q Lk0 Lm0 Lm1 Lm2 Lm3 Lpa Lpb Lpc Ln3
        have bV := HB.out.trans (hq.mono HB.out.size)
        have zV := bV.size
        have HBV := Lib.hid (hb.out.keep hq)
        obtain ⟨m0, m1, m2, m3, m4, zm⟩ := HX.out.keep hq
        obtain ⟨k0, -, kz⟩ := HTW.out.keep hq
        clear hq zW
        clear m0 m1 m2 m3 m4 k0 hi1
        go_wp2
        go_roundw
        case rel => exact ⟨k + 1, by rw [HSU.out, HCC.out, HBO.out]; rfl, HLT.out, by go_num, Lib.hid (by rw [HSU.out, HCC.out, HBO.out]; exact HBV.out), bV⟩
        case measure => simp [RowKit.intOf]; have := HLT.out; omega
      · rename_i b
        have tgt : decide (b.p.n < x.p.n) = true := decide_eq_true (HGT.out b HBO.out HCC.out)
        obtain ⟨m0, m1, m2, m3, m4, zm⟩ := id HX.out
        obtain ⟨pa, pb, pc, pz⟩ := id HAW.out
        obtain ⟨n0, n1, n2, n3, n4, zn⟩ := hb.out.five
        have Lk0 := fun q : Later W.heap.size W => (q.cell kz).trans k0
        have Lm0 := fun q : Later W.heap.size W => (q.cell (p := ⟨g, off + k * 5, none⟩) zm).trans m0
        have Lm1 := fun q : Later W.heap.size W => (q.cell (p := ⟨g, off + k * 5 + 1, none⟩) zm).trans m1
        have Lm2 := fun q : Later W.heap.size W => (q.cell (p := ⟨g, off + k * 5 + 2, none⟩) zm).trans m2
        have Lm3 := fun q : Later W.heap.size W => (q.cell (p := ⟨g, off + k * 5 + 3, none⟩) zm).trans m3
        have Lpa := fun q : Later W.heap.size W => (q.cell pz).trans pa
        have Lpb := fun q : Later W.heap.size W => (q.cell pz).trans pb
        have Lpc := fun q : Later W.heap.size W => (q.cell pz).trans pc
        have Ln3 := fun q : Later W.heap.size W => (q.cell zn).trans n3
        go_upto_region 6 with fail
        clear hlt' m0 m1 m2 m3 m4 pa pb pc n0 n1 n2 n3 n4 k0
        refine region_later W.heap.size (by kernel_rfl) (by kernel_rfl) ?_
        repeat (go_big_quiet_step ((go_at_call 47; exact later_of (Nat.le_refl _) (CJ.out _))))
        refine wpQuiet_nil ?_
        intro q
        have hq := q.below
        generalize q.at = V at hq ⊢
        clear q Lk0 Lm0 Lm1 Lm2 Lm3 Lpa Lpb Lpc Ln3
        have bV := HB.out.trans (hq.mono HB.out.size)
        have zV := bV.size
        have HBV := Lib.hid (hb.out.keep hq)
        obtain ⟨m0, m1, m2, m3, m4, zm⟩ := HX.out.keep hq
        obtain ⟨k0, -, kz⟩ := HTW.out.keep hq
        clear hq zW
        go_upto_region 7 with fail
        go_wp2_with (refine wpList_row rfl _ _ _ rfl w1.heap.size _ rfl rfl 67 _ (HBV.out) 5 size_kpair rfl rfl rfl ?_; intro w9 h9 f9; have b9 : Below w1.heap.size w1 w9 := bV.trans (f9.below (fun b hb => by omega) (by omega)); have H9 := Lib.hid h9; clear h9 f9 m0 m1 m2 m3 m4 k0 hi1)
        go_roundw
        case rel => exact ⟨k + 1, by rw [HSU.out, HCC.out]; rfl, HLT.out, by go_num, Lib.hid (by rw [HSU.out, HCC.out]; exact H9.out), b9⟩
        case measure => simp [RowKit.intOf]; have := HLT.out; omega
    · obtain rfl : k = L.length := by omega
      have hlt' : decide ((L.length : Int) < (L.length : Int)) = false := by simp
      rw [lgK_all] at hb ⊢
      have HQW := Lib.hid (HQ1.out.keep hB)
      have bW := b1.trans (hB.mono b1.size)
      have z1 := b1.size
      clear hlt hk hB
      obtain ⟨n0, n1, n2, n3, n4, zn⟩ := hb.out.five
      go_upto_region 9 with fail
      go_wp2_with (refine wpList_row rfl _ _ _ rfl (w.heap.size + 1 + 1) _ rfl rfl 67 _ (HQW.out) 5 size_kpair rfl rfl rfl ?_; intro w9 h9 f9; have b9 : Below w.heap.size w w9 := bW.trans (f9.below (fun b hb => by omega) (by omega)); have q0 := cell_row (i := 0) h9; have q1 := cell_row (i := 1) h9; have q2 := cell_row (i := 2) h9; have q3 := cell_row (i := 3) h9; have q4 := cell_row (i := 4) h9; simp at q0 q1 q2 q3 q4; clear f9)
      refine bodyPost_ret (v := .tuple #[.agg #[.int .u64 (u ((longL L a).getD nilPr).p.a.hi), .int .u64 (u ((longL L a).getD nilPr).p.a.lo), .bool ((longL L a).getD nilPr).p.a.v6, .int .i64 ((longL L a).getD nilPr).p.n, .int .i64 ((longL L a).getD nilPr).v], .bool (longL L a).isSome]) (by simp [*, results, Try.results24, go_sem] <;> rfl) rfl ⟨rfl, b9⟩

end Go.Proofs.Ytkgjogkbdkdogaa

namespace Go.Proofs.Ytkgjogkbdkdogaa
open Go.RowKit Go.Maps
set_option maxRecDepth 100000

theorem getQ_lk {L : List Pr} (hs : Srt L) (p : Pf) : getQ p L = lk L p := by
  unfold getQ
  by_cases h : psane p = true
  · rw [if_pos h]
  · rw [if_neg h]
    exact (lk_none (fun x hx e => h (by rw [← e]; exact hs.1 x hx))).symm
theorem qbox_kept {w w' : World} {b : Nat} {x : Pr} (h : QBox w b x) (hb : Below w.heap.size w w') : QBox w' b x := by
  obtain ⟨h0, h1, h2, h3, h4, hz⟩ := h
  exact ⟨(hb.cell hz).trans h0, (hb.cell hz).trans h1, (hb.cell hz).trans h2, (hb.cell hz).trans h3, (hb.cell hz).trans h4, Nat.lt_of_lt_of_le hz hb.size⟩
theorem keep6K {W w' : World} {b b' n c : Nat} {A : Option Addr} {most : Int} {p : Pf} (h : Below W.heap.size W w') (hK : KBox W b A n c most) (hP : PBox W b' p) :
    w'.cell? ⟨b, 0, none⟩ = some (.slice A n c) ∧ w'.cell? ⟨b, 1, none⟩ = some (.int .i64 most) ∧ w'.cell? ⟨b', 0, none⟩ = some (.int .u64 (u p.a.hi)) ∧ w'.cell? ⟨b', 1, none⟩ = some (.int .u64 (u p.a.lo)) ∧ w'.cell? ⟨b', 2, none⟩ = some (.bool p.a.v6) ∧ w'.cell? ⟨b', 3, none⟩ = some (.int .i64 p.n) ∧ Below W.heap.size W w' := by
  obtain ⟨k0, k1, -⟩ := hK.keep h
  obtain ⟨p0, p1, p2, p3, -⟩ := hP.keep h
  exact ⟨k0, k1, p0, p1, p2, p3, h⟩

variable {w : World} {A : Option Addr} {L : List Pr} {c : Nat}
set_option maxHeartbeats 16000000 in
theorem same_any {t : Nat} {S : Nat → Prop} {most : Nat} (hT : Trie w t S L most) (hr : RdQ w A L) (hl : L.length ≤ 10000) (p : Pf) (a : Ad) : Calls Try.prog 9 #[.pointer (some ⟨t, 0, none⟩), .agg #[.slice A L.length c, .int .i64 (most : Int)], .agg #[.int .u64 (u p.a.hi), .int .u64 (u p.a.lo), .bool p.a.v6, .int .i64 p.n], .agg #[.int .u64 (u a.hi), .int .u64 (u a.lo), .bool a.v6]] w fun e w' => e = .returned (.bool true) ∧ Below w.heap.size w w' := by
  have hs := hT.srt
  have hl5 : L.length ≤ 100000 := by omega
  have hl6 : L.length ≤ 1000000 := by omega
  have cg := fun W (h : Trie W t S L most) => trie_get h p
  have kg := fun W (h : RdQ W A L) => kget_any (c := c) h hl5 (most : Int) p
  rw [getQ_lk hs] at cg
  have cl := fun W (h : Trie W t S L most) => trie_longest h a
  have kl := fun W (h : RdQ W A L) => klongest_any (c := c) h hs hl (most : Int) a
  unfold OptPost at kl
  obtain ⟨gv, hgv⟩ : ∃ gv, (lk L p).getD 0 = gv := ⟨_, rfl⟩
  obtain ⟨gs, hgs⟩ : ∃ gs, (lk L p).isSome = gs := ⟨_, rfl⟩
  obtain ⟨Y, hY⟩ : ∃ Y, (longL L a).getD nilPr = Y := ⟨_, rfl⟩
  obtain ⟨oy, hoy⟩ : ∃ oy, (longL L a).isSome = oy := ⟨_, rfl⟩
  rw [hgv, hgs] at cg kg
  rw [hY, hoy] at cl kl
  have ca := fun W (h : Trie W t S L most) => trie_above h p
  have cu := fun W (h : Trie W t S L most) => trie_under h p
  have ka := fun W (h : RdQ W A L) => kabove_any (c := c) h hl6 (most : Int) p
  have ku := fun W (h : RdQ W A L) => kunder_any (c := c) h hl6 (most : Int) p
  have hla := List.length_filter_le (fun x : Pr => pcov x.p p) L
  have hlu := List.length_filter_le (fun x : Pr => pcov p x.p) L
  generalize (L.filter fun x => pcov x.p p) = F at ca ka hla
  generalize (L.filter fun x => pcov p x.p) = U at cu ku hlu
  have ci := fun W (h : Trie W t S L most) => trie_inside h p
  have ki := fun W (h : RdQ W A L) => kins_any (c := c) h hl6 (most : Int) p
  unfold insL at ki
  generalize (L.any fun x => pins p x.p) = I at ci ki
  have cn := fun W (h : Trie W t S L most) => trie_nodes h
  have kn := fun W (h : RdQ W A L) => knodes_any (c := c) h hs.1 hl5 (most : Int)
  generalize nodesL L = N at cn kn
  have cs := fun W (h : Trie W t S L most) => trie_slots h
  have ce := fun W (h : Trie W t S L most) => trie_len h
  have hF : F.length ≤ 1000000000 := by omega
  have hU : U.length ≤ 1000000000 := by omega
  have cf := fun b v W (h : W.ownsRow b 54 5 v F.length (prv F)) => pairs_any b v F W h hF
  have cv := fun b v W (h : W.ownsRow b 54 5 v U.length (prv U)) => pairs_any b v U W h hU
  have yf := fun b1 b2 v1 v2 W (h1 : W.ownsRow b1 67 5 v1 F.length (prv F)) (h2 : W.ownsRow b2 67 5 v2 F.length (prv F)) => pairs_yes b1 b2 v1 v2 F W h1 h2 hF
  have yu := fun b1 b2 v1 v2 W (h1 : W.ownsRow b1 67 5 v1 U.length (prv U)) (h2 : W.ownsRow b2 67 5 v2 U.length (prv U)) => pairs_yes b1 b2 v1 v2 U W h1 h2 hU
  have HT := Lib.hid hT
  have HR := Lib.hid hr
  have CG := Lib.hid cg
  have KG := Lib.hid kg
  have CL := Lib.hid cl
  have KL := Lib.hid kl
  have CA := Lib.hid ca
  have CU := Lib.hid cu
  have KA := Lib.hid ka
  have KU := Lib.hid ku
  have CI := Lib.hid ci
  have KI := Lib.hid ki
  have CN := Lib.hid cn
  have KN := Lib.hid kn
  have CS := Lib.hid cs
  have CE := Lib.hid ce
  have CF := Lib.hid cf
  have CV := Lib.hid cv
  have YF := Lib.hid yf
  have YU := Lib.hid yu
  have CP := Lib.hid (lawpair_any Y)
  clear hT hr cg kg cl kl ca cu ka ku ci ki cn kn cs ce cf cv yf yu hs hl hl5 hl6 hla hlu hF hU hgv hgs hY hoy
  go_enter Try.func9, Try.ntmps9
  go_wp2_with fail
  refine (CG.out _ (HT.out.keep (by go_grown))).mono ?_
  rintro e w1 ⟨rfl, hw⟩
  have b1 : Below w.heap.size w w1 := below_of (by go_grown) hw
  have Hk1 : Hid (KBox w1 w.heap.size A L.length c (most : Int)) := Lib.hid (KBox.keep (by refine ⟨?_, ?_, ?_⟩ <;> first | (go_simp; done) | (go_simp <;> rfl) | go_size) hw)
  have Hp1 : Hid (PBox w1 (w.heap.size + 1) p) := Lib.hid (PBox.keep (by exact ⟨by go_simp <;> rfl, by go_simp <;> rfl, by go_simp <;> rfl, by go_simp <;> rfl, by go_simp <;> rfl, by go_simp <;> rfl, by go_simp <;> rfl, by go_simp <;> rfl, by go_size⟩) hw)
  have Ha1 : Hid (ABox w1 (w.heap.size + 1 + 1) a) := Lib.hid (ABox.keep ⟨by go_simp <;> rfl, by go_simp <;> rfl, by go_simp <;> rfl, by go_size⟩ hw)
  clear hw CG
  obtain ⟨k0, k1, kz⟩ := id Hk1.out
  obtain ⟨p0, p1, p2, p3, -⟩ := id Hp1.out
  go_wp2_with fail
  refine (KG.out _ (HR.out.keep (B := w.heap.size) (by go_grown) (Nat.le_refl _))).mono ?_
  rintro e w2 ⟨rfl, hw⟩
  have ee : Below w1.heap.size w1 w2 := below_of (by go_grown) hw
  have Hk2 := Lib.hid (Hk1.out.keep ee)
  have Hp2 := Lib.hid (Hp1.out.keep ee)
  have Ha2 := Lib.hid (Ha1.out.keep ee)
  have b2 := b1.trans (ee.mono b1.size)
  clear hw ee Hk1 Hp1 Ha1 KG k0 k1 kz p0 p1 p2 p3 b1
  obtain ⟨a0, a1, a2, az⟩ := id Ha2.out
  go_wp2_with fail
  refine (CL.out _ (HT.out.keep (by go_grown))).mono ?_
  rintro e w3 ⟨rfl, hw⟩
  have ee : Below w2.heap.size w2 w3 := below_of (by go_grown) hw
  have Hk3 := Lib.hid (Hk2.out.keep ee)
  have Hp3 := Lib.hid (Hp2.out.keep ee)
  have Ha3 := Lib.hid (Ha2.out.keep ee)
  have b3 := b2.trans (ee.mono b2.size)
  clear hw ee Hk2 Hp2 Ha2 CL a0 a1 a2 az b2
  obtain ⟨k0, k1, kz⟩ := id Hk3.out
  obtain ⟨a0, a1, a2, az⟩ := id Ha3.out
  have kn0 : ¬ w.heap.size = w3.heap.size := by omega
  have an0 : ¬ w.heap.size + 1 + 1 = w3.heap.size := by omega
  go_wp2_with fail
  refine (KL.out _ (HR.out.keep (B := w.heap.size) (by go_grown) (Nat.le_refl _))).mono ?_
  rintro e w4 ⟨rfl, hw⟩
  have ee : Below w3.heap.size w3 w4 := below_of (by go_grown) hw
  have Hx4 : Hid (QBox w4 w3.heap.size Y) := Lib.hid (qbox_kept (by refine ⟨?_, ?_, ?_, ?_, ?_, ?_⟩ <;> first | (go_simp; done) | (go_simp <;> rfl) | go_size) hw)
  have Hk4 := Lib.hid (Hk3.out.keep ee)
  have Hp4 := Lib.hid (Hp3.out.keep ee)
  have b4 := b3.trans (ee.mono b3.size)
  have z4 := ee.size
  have hx4 := Hx4.out.2.2.2.2.2
  clear hw Hk3 Hp3 Ha3 KL a0 a1 a2 az kn0 an0 k0 k1 kz
  go_upto_region 5 with fail
  generalize hV : World.alloc _ _ = w5
  have e5 : Below w4.heap.size w4 w5 := by subst hV; go_grown
  have Hy5 : Hid (QBox w5 w4.heap.size Y) := Lib.hid (by subst hV; exact (by refine ⟨?_, ?_, ?_, ?_, ?_, ?_⟩ <;> first | (go_simp; done) | (go_simp <;> rfl) | go_size))
  have Hx5 : Hid (QBox w5 w3.heap.size Y) := Lib.hid (qbox_kept Hx4.out e5)
  have Hk5 := Lib.hid (Hk4.out.keep e5)
  have Hp5 := Lib.hid (Hp4.out.keep e5)
  have b5 := b4.trans (e5.mono b4.size)
  have z5 := e5.size
  clear hV e5 ee Hx4 Hk4 Hp4 b4 b3 hx4
  obtain ⟨x0, x1, x2, x3, x4, xz⟩ := id Hx5.out
  obtain ⟨y0, y1, y2, y3, y4, yz⟩ := id Hy5.out
  have Lx0 := fun x : Later w5.heap.size w5 => (x.cell xz).trans x0
  have Lx1 := fun x : Later w5.heap.size w5 => (x.cell xz).trans x1
  have Lx2 := fun x : Later w5.heap.size w5 => (x.cell xz).trans x2
  have Lx3 := fun x : Later w5.heap.size w5 => (x.cell xz).trans x3
  have Lx4 := fun x : Later w5.heap.size w5 => (x.cell xz).trans x4
  have Ly0 := fun x : Later w5.heap.size w5 => (x.cell yz).trans y0
  have Ly1 := fun x : Later w5.heap.size w5 => (x.cell yz).trans y1
  have Ly2 := fun x : Later w5.heap.size w5 => (x.cell yz).trans y2
  have Ly3 := fun x : Later w5.heap.size w5 => (x.cell yz).trans y3
  have Ly4 := fun x : Later w5.heap.size w5 => (x.cell yz).trans y4
  refine region_later w5.heap.size (by kernel_rfl) (by kernel_rfl) ?_
  repeat (go_big_quiet_step (first | (go_at_call 25; exact later_of (Nat.le_refl _) (CP.out _))))
  refine wpQuiet_nil ?_
  intro x
  have ee := x.below
  generalize x.at = w6 at ee ⊢
  clear x Lx0 Lx1 Lx2 Lx3 Lx4 Ly0 Ly1 Ly2 Ly3 Ly4 x0 x1 x2 x3 x4 xz y0 y1 y2 y3 y4 yz Hx5 Hy5 CP
  have Hk6 := Lib.hid (Hk5.out.keep ee)
  have Hp6 := Lib.hid (Hp5.out.keep ee)
  have b6 := b5.trans (ee.mono b5.size)
  have z6 := ee.size
  clear ee Hk5 Hp5 b5
  go_upto_region 7 with fail
  clear z4 z5 z6
  obtain ⟨W, rfl⟩ : ∃ W, W = w6 := ⟨_, rfl⟩
  have HT6 := Lib.hid (HT.out.keep b6)
  have HR6 := Lib.hid (HR.out.keep b6 (Nat.le_refl _))
  have c6 := Below.refl W.heap.size W
  obtain ⟨k0, k1, kz⟩ := id Hk6.out
  obtain ⟨p0, p1, p2, p3, -⟩ := id Hp6.out
  clear HT HR
  go_region_held3 (fun w' => w'.cell? ⟨w.heap.size, 0, none⟩ = some (.slice A L.length c) ∧ w'.cell? ⟨w.heap.size, 1, none⟩ = some (.int .i64 (most : Int)) ∧ w'.cell? ⟨w.heap.size + 1, 0, none⟩ = some (.int .u64 (u p.a.hi)) ∧ w'.cell? ⟨w.heap.size + 1, 1, none⟩ = some (.int .u64 (u p.a.lo)) ∧ w'.cell? ⟨w.heap.size + 1, 2, none⟩ = some (.bool p.a.v6) ∧ w'.cell? ⟨w.heap.size + 1, 3, none⟩ = some (.int .i64 p.n) ∧ Below W.heap.size W w')
    (first | exact keep6K hkm Hk6.out Hp6.out | exact keep6K hkl Hk6.out Hp6.out | exact keep6K hkj Hk6.out Hp6.out | exact keep6K hki Hk6.out Hp6.out | exact keep6K hkh Hk6.out Hp6.out | exact keep6K hkg Hk6.out Hp6.out | exact keep6K hkf Hk6.out Hp6.out | exact keep6K hke Hk6.out Hp6.out | exact keep6K hkd Hk6.out Hp6.out | exact keep6K hkc Hk6.out Hp6.out | exact keep6K hkb Hk6.out Hp6.out | exact keep6K hka Hk6.out Hp6.out | (refine keep6K ?_ Hk6.out Hp6.out; go_grown))
    (first
      | (go_at_call 26; refine (CA.out _ (HT6.out.keep (by go_grown))).mono ?_; rintro e wa ⟨va, rfl, ha, hw⟩; have hka := below_of (w := W) (by go_grown) hw; clear hw; have HVA := Lib.hid ha; clear ha)
      | (go_at_call 11; refine (CV.out _ _ _ HVE.out).mono ?_; rintro e wf ⟨vf, rfl, hf, hw⟩; have hkf := hke.trans (hw.mono hke.size); have HVF := Lib.hid hf; clear hf hw)
      | (go_at_call 11; refine (CF.out _ _ _ HVA.out).mono ?_; rintro e wb ⟨vb, rfl, hb, hw⟩; have hkb := hka.trans (hw.mono hka.size); have HVB := Lib.hid hb; clear hb hw)
      | (go_at_call 27; refine (KA.out _ (HR6.out.keep hkb (Nat.le_refl _))).mono ?_; rintro e wc ⟨vc, rfl, hc, hw⟩; have hkc := hkb.trans (hw.mono hkb.size); have HVB2 := Lib.hid (own_fresh HVB.out hw); have HVC := Lib.hid hc; clear hc hw)
      | (go_at_call 10; refine (YU.out _ _ _ _ _ HVF2.out HVG.out).mono ?_; rintro e wh ⟨rfl, hw⟩; have hkh := hkg.trans (hw.mono hkg.size); clear hw)
      | (go_at_call 10; refine (YF.out _ _ _ _ _ HVB2.out HVC.out).mono ?_; rintro e wd ⟨rfl, hw⟩; have hkd := hkc.trans (hw.mono hkc.size); clear hw)
      | (go_at_call 28; refine (CU.out _ (HT6.out.keep hkd)).mono ?_; rintro e we ⟨ve, rfl, he, hw⟩; have hke := hkd.trans (hw.mono hkd.size); have HVE := Lib.hid he; clear he hw)
      | (go_at_call 29; refine (KU.out _ (HR6.out.keep hkf (Nat.le_refl _))).mono ?_; rintro e wg ⟨vg, rfl, hg, hw⟩; have hkg := hkf.trans (hw.mono hkf.size); have HVF2 := Lib.hid (own_fresh HVF.out hw); have HVG := Lib.hid hg; clear hg hw)
      | (go_at_call 30; refine (CI.out _ (HT6.out.keep hkh)).mono ?_; rintro e wi ⟨rfl, hw⟩; have hki := hkh.trans (hw.mono hkh.size); clear hw)
      | (go_at_call 31; refine (KI.out _ (HR6.out.keep hki (Nat.le_refl _))).mono ?_; rintro e wj ⟨rfl, hw⟩; have hkj := hki.trans (hw.mono hki.size); clear hw)
      | (go_at_call 32; refine (CE.out _ (HT6.out.keep hkj)).mono ?_; rintro e wk ⟨rfl, rfl⟩)
      | (go_at_call 16; refine (CN.out _ (HT6.out.keep hkj)).mono ?_; rintro e wl ⟨rfl, hw⟩; have hkl := hkj.trans (hw.mono hkj.size); clear hw)
      | (go_at_call 33; refine (KN.out _ (HR6.out.keep hkl (Nat.le_refl _))).mono ?_; rintro e wm ⟨rfl, hw⟩; have hkm := hkl.trans (hw.mono hkl.size); clear hw)
      | (go_at_call 19; refine (CS.out _ (HT6.out.keep hkm)).mono ?_; rintro e wn ⟨rfl, rfl⟩))
  all_goals (go_wp2_with fail)
  all_goals go_ret
  all_goals exact ⟨rfl, b6.trans (hkm.mono b6.size)⟩

end Go.Proofs.Ytkgjogkbdkdogaa

namespace Go.Proofs.Ytkgjogkbdkdogaa
open Go.RowKit Go.Maps
set_option maxRecDepth 100000

set_option maxHeartbeats 2000000 in
theorem pairs_rd (b1 : Nat) (v1 : Value) (A2 : Option Addr) (c2 : Nat) (l : List Pr) (w : World) (h1 : w.ownsRow b1 67 5 v1 l.length (prv l)) (h2 : RdQ w A2 l) (hb : l.length ≤ 1000000000) :
    Calls Try.prog 10 #[v1, .slice A2 l.length c2] w fun e w' => e = .returned (.bool true) ∧ Below w.heap.size w w' := by
  have H1 := Lib.hid h1
  have H2 := Lib.hid h2
  obtain ⟨A1, c1, rfl, -⟩ := own_val h1
  clear h1 h2
  go_enter Try.func10, Try.ntmps10
  go_wp2_with fail
  go_loopw [5] (fun i wr => ∃ k : Nat, k ≤ l.length ∧ i = .int .i64 k ∧ Below w.heap.size w wr) (fun i _ => l.length - (intOf i).toNat)
  case atStart => exact ⟨0, Nat.zero_le _, rfl, Below.refl _ _⟩
  case round =>
    obtain ⟨k, hk, rfl, hB⟩ := hrel
    by_cases hlt : k < l.length
    · have hlt' : (k : Int) < (l.length : Int) := by omega
      have hk0 : (0 : Int) ≤ (k : Int) := by omega
      have hk9 : (k : Int) + 1 ≤ 1000000000 := by omega
      obtain ⟨g, cg, eg, -, hg, hcc⟩ := row_cell (own_fresh H1.out hB) rfl hlt
      simp only [Value.slice.injEq, true_and] at eg
      obtain ⟨rfl, rfl⟩ := eg
      obtain ⟨g', off, rfl, hg', hc2⟩ := (H2.out.keep hB (Nat.le_refl _)) (by rintro rfl; simp at hlt)
      obtain ⟨b0, b1, b2, b3, b4⟩ := hc2 k hlt
      clear hc2
      have a0 : wr.cell? ⟨g, k * 5, none⟩ = some (.int .u64 (u l[k].p.a.hi)) := hcc 0 (by omega)
      have a1 : wr.cell? ⟨g, k * 5 + 1, none⟩ = some (.int .u64 (u l[k].p.a.lo)) := hcc 1 (by omega)
      have a2 : wr.cell? ⟨g, k * 5 + 2, none⟩ = some (.bool l[k].p.a.v6) := hcc 2 (by omega)
      have a3 : wr.cell? ⟨g, k * 5 + 3, none⟩ = some (.int .i64 l[k].p.n) := hcc 3 (by omega)
      have a4 : wr.cell? ⟨g, k * 5 + 4, none⟩ = some (.int .i64 l[k].v) := hcc 4 (by omega)
      clear hcc
      generalize l[k] = r at *
      obtain ⟨W, rfl⟩ : ∃ W, W = wr := ⟨_, rfl⟩
      have hz := hB.size
      have A0 := fun x : Later W.heap.size W => (x.cell (p := ⟨g, k * 5, none⟩) hg).trans a0
      have A1 := fun x : Later W.heap.size W => (x.cell (p := ⟨g, k * 5 + 1, none⟩) hg).trans a1
      have A2 := fun x : Later W.heap.size W => (x.cell (p := ⟨g, k * 5 + 2, none⟩) hg).trans a2
      have A3 := fun x : Later W.heap.size W => (x.cell (p := ⟨g, k * 5 + 3, none⟩) hg).trans a3
      have A4 := fun x : Later W.heap.size W => (x.cell (p := ⟨g, k * 5 + 4, none⟩) hg).trans a4
      have B0 := fun x : Later W.heap.size W => (x.cell (p := ⟨g', off + k * 5, none⟩) hg').trans b0
      have B1 := fun x : Later W.heap.size W => (x.cell (p := ⟨g', off + k * 5 + 1, none⟩) hg').trans b1
      have B2 := fun x : Later W.heap.size W => (x.cell (p := ⟨g', off + k * 5 + 2, none⟩) hg').trans b2
      have B3 := fun x : Later W.heap.size W => (x.cell (p := ⟨g', off + k * 5 + 3, none⟩) hg').trans b3
      have B4 := fun x : Later W.heap.size W => (x.cell (p := ⟨g', off + k * 5 + 4, none⟩) hg').trans b4
      clear a0 a1 a2 a3 a4 b0 b1 b2 b3 b4
      go_wp2_with fail
      refine region_later W.heap.size (by kernel_rfl) (by kernel_rfl) ?_
      repeat (go_big_quiet_step (fail))
      refine wpQuiet_nil ?_
      intro x
      have hx : Below w.heap.size w x.at := hB.trans (x.below.mono hz)
      clear A0 A1 A2 A3 A4 B0 B1 B2 B3 B4
      generalize x.at = w2 at *
      clear x
      go_wp2_with fail
      refine ⟨⟨k + 1, by omega, by go_num, hx⟩, by simp [intOf]; omega⟩
    · obtain rfl : k = l.length := by omega
      have hlt' : ¬ (l.length : Int) < (l.length : Int) := by omega
      go_wp2
      go_ret
      exact ⟨rfl, hB⟩

end Go.Proofs.Ytkgjogkbdkdogaa
