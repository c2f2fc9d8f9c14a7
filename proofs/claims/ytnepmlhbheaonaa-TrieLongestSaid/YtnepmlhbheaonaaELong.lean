/-
  TrieLongest: for every input the call returns true, and each argument reads afterwards as it read before. No condition.
-/
import Derived.Test.YtnepmlhbheaonaaE1
import Derived.Test.YtnepmlhbheaonaaF1
import Derived.Test.YtnepmlhbheaonaaQf
namespace Go.Proofs.Ytnepmlhbheaonaa
set_option maxRecDepth 100000

theorem pof_128 (a : Ad) : pof a 128 = pof a (wid a.v6) := by
  have h : clamp a.v6 128 = clamp a.v6 (wid a.v6) := by
    unfold clamp wid
    cases a.v6 <;> decide
  unfold pof
  rw [h]
theorem above_con {L : List Pr} (h : Srt L) (a : Ad) : L.filter (fun x => pcov x.p (pof a 128)) = L.filter (fun x => pcon x.p a) := by
  rw [pof_128]
  exact List.filter_congr fun x hx => cov_full (h.1 x hx) a
theorem con_lt {x y : Pf} {a : Ad} (hx : pcon x a = true) (hy : pcon y a = true) (h : pcmp x y < 0) : x.n < y.n := by
  obtain ⟨x1, x2, x3⟩ := (pcon_iff x a).1 hx
  obtain ⟨y1, y2, y3⟩ := (pcon_iff y a).1 hy
  rcases Int.lt_or_le x.n y.n with e | e
  · exact e
  · have hc : pcov y x = true := (pcov_iff y x).2 ⟨y1, x1, e, by rw [← y2, x2], fun j hj => by rw [← x3 j (by omega), y3 j hj]⟩
    have h1 := cov_cmp hc
    have h2 := pcmp_anti x y
    omega
theorem srt_step {L : List Pr} (h : Srt L) {i : Nat} (hi : i + 1 < L.length) : pcmp L[i].p L[i + 1].p = -1 := by
  have h1 := List.pairwise_iff_getElem.1 h.2 i (i + 1) (by omega) hi (by omega)
  have h2 := (pcmp_bd L[i].p L[i + 1].p).1
  omega
theorem con_step {L : List Pr} (h : Srt L) (a : Ad) {i : Nat} (hi : i + 1 < (L.filter fun x => pcon x.p a).length) : (L.filter fun x => pcon x.p a)[i].p.n < (L.filter fun x => pcon x.p a)[i + 1].p.n := by
  have h1 := srt_step (filter_srt h _) hi
  have m1 := (List.mem_filter.1 (List.getElem_mem (Nat.lt_of_succ_lt hi))).2
  have m2 := (List.mem_filter.1 (List.getElem_mem hi)).2
  exact con_lt m1 m2 (by rw [h1]; decide)
/-- Of the pairs of a prefix: itself. -/
def selfL (p : Pf) (L : List Pr) : List Pr := match getQ p L with
  | none => []
  | some v => [⟨p, v⟩]
def kidsL (p : Pf) (L : List Pr) : List Pr := if (pchild p 1).2 = true then (L.filter fun x => pcov (pchild p 0).1 x.p) ++ (L.filter fun x => pcov (pchild p 1).1 x.p) else []
theorem mem_self {p : Pf} {L : List Pr} (h : Srt L) (x : Pr) : x ∈ selfL p L ↔ x ∈ L ∧ x.p = p := by
  unfold selfL getQ
  cases hp : psane p
  · simp only [Bool.false_eq_true, if_false, List.not_mem_nil, false_iff]
    rintro ⟨h1, rfl⟩
    rw [h.1 x h1] at hp
    cases hp
  · simp only [if_true]
    cases hl : lk L p with
    | none =>
      simp only [List.not_mem_nil, false_iff]
      rintro ⟨h1, rfl⟩
      rw [lk_some h h1] at hl
      cases hl
    | some v =>
      simp only [List.mem_singleton]
      constructor
      · rintro rfl
        exact ⟨lk_mem hl, rfl⟩
      · rintro ⟨h1, rfl⟩
        rw [lk_some h h1] at hl
        cases hl
        rfl
theorem self_len (p : Pf) (L : List Pr) : (selfL p L).length = if (getQ p L).isSome = true then 1 else 0 := by
  unfold selfL
  cases getQ p L <;> rfl
theorem child_no {p : Pf} (h : ¬ (pchild p 1).2 = true) : psane p = false ∨ wid p.a.v6 ≤ p.n := by
  cases hp : psane p
  · exact .inl rfl
  · right
    rcases Int.lt_or_le p.n (wid p.a.v6) with e | e
    · rw [child_eq p 1 hp e] at h
      exact absurd rfl h
    · exact e
theorem parts_eq {L : List Pr} (h : Srt L) (p : Pf) : selfL p L ++ kidsL p L = L.filter fun x => pcov p x.p := by
  have hself : Srt (selfL p L) := by
    refine ⟨fun x hx => h.1 x ((mem_self h x).1 hx).1, ?_⟩
    unfold selfL
    cases getQ p L <;> simp
  by_cases hc : (pchild p 1).2 = true
  · obtain ⟨hp, hlt, -⟩ := child_ok 1 hc
    have hk : kidsL p L = (L.filter fun x => pcov (pchild p 0).1 x.p) ++ (L.filter fun x => pcov (pchild p 1).1 x.p) := if_pos hc
    rw [hk]
    have sp : ∀ x ∈ L, (pcov p x.p = true ↔ x.p = p ∨ pcov (pchild p 0).1 x.p = true ∨ pcov (pchild p 1).1 x.p = true) := fun x hx => cov_split hp hlt (h.1 x hx)
    have pk : ∀ d : Int, (d = 0 ∨ d = 1) → ∀ y : Pf, pcov (pchild p d).1 y = true → pcmp p y < 0 := by
      intro d hd y hy
      have hce := child_eq p d hp hlt
      have hcv : pcov p y = true := by
        have hy' := (pcov_iff _ _).1 hy
        rcases hd with rfl | rfl
        · exact (cov_split hp hlt hy'.2.1).2 (.inr (.inl hy))
        · exact (cov_split hp hlt hy'.2.1).2 (.inr (.inr hy))
      have h1 := cov_cmp hcv
      have h2 := (pcov_iff _ _).1 hy
      rw [hce] at h2
      have h3 := h2.2.2.1
      simp only at h3
      have h4 : pcmp p y ≠ 0 := fun e => by
        have := (pcmp_eq hp h2.2.1).1 e
        rw [← this] at h3
        omega
      omega
    refine srt_ext ⟨fun x hx => ?_, ?_⟩ (filter_srt h _) (fun x => ?_)
    · rcases List.mem_append.1 hx with hx | hx
      · exact hself.1 x hx
      · rcases List.mem_append.1 hx with hx | hx
        · exact h.1 x (List.mem_filter.1 hx).1
        · exact h.1 x (List.mem_filter.1 hx).1
    · rw [List.pairwise_append, List.pairwise_append]
      refine ⟨hself.2, ⟨(filter_srt h _).2, (filter_srt h _).2, fun x hx y hy => ?_⟩, fun x hx y hy => ?_⟩
      · exact child_lt hp hlt (List.mem_filter.1 hx).2 (List.mem_filter.1 hy).2
      · rw [((mem_self h x).1 hx).2]
        rcases List.mem_append.1 hy with hy | hy
        · exact pk 0 (.inl rfl) _ (List.mem_filter.1 hy).2
        · exact pk 1 (.inr rfl) _ (List.mem_filter.1 hy).2
    · rw [List.mem_append, List.mem_append, List.mem_filter, List.mem_filter, List.mem_filter, mem_self h]
      constructor
      · rintro (⟨h1, h2⟩ | ⟨h1, h2⟩ | ⟨h1, h2⟩)
        · exact ⟨h1, (sp x h1).2 (.inl h2)⟩
        · exact ⟨h1, (sp x h1).2 (.inr (.inl h2))⟩
        · exact ⟨h1, (sp x h1).2 (.inr (.inr h2))⟩
      · rintro ⟨h1, h2⟩
        rcases (sp x h1).1 h2 with e | e | e
        · exact .inl ⟨h1, e⟩
        · exact .inr (.inl ⟨h1, e⟩)
        · exact .inr (.inr ⟨h1, e⟩)
  · have hk : kidsL p L = [] := if_neg hc
    rw [hk, List.append_nil]
    refine srt_ext hself (filter_srt h _) (fun x => ?_)
    rw [mem_self h, List.mem_filter]
    refine and_congr_right fun hx => ?_
    constructor
    · rintro rfl
      exact cov_refl _ (h.1 x hx)
    · intro hcv
      obtain ⟨k1, k2, k3, k4, k5⟩ := (pcov_iff _ _).1 hcv
      rcases child_no hc with e | e
      · rw [k1] at e
        cases e
      · have hb := (psane_bd k2).2
        have hn : p.n = x.p.n := by rw [← k4] at hb; omega
        exact (sane_ext k1 k2 hn k4 (fun j hj => (k5 j hj).symm)).symm
theorem ins_iff {L : List Pr} (h : Srt L) (p : Pf) : (L.any fun x => pins p x.p) = decide ((selfL p L).length < (L.filter fun x => pcov p x.p).length) := by
  rw [Bool.eq_iff_iff, List.any_eq_true, decide_eq_true_iff]
  have hpe := parts_eq h p
  have key : ∀ x ∈ L, (pins p x.p = true ↔ pcov p x.p = true ∧ x.p ≠ p) := by
    intro x hx
    constructor
    · intro hi
      have hcv : pcov p x.p = true := by
        unfold pins at hi
        simp only [Bool.and_eq_true] at hi
        first | exact hi.1 | exact hi.2
      refine ⟨hcv, fun e => ?_⟩
      rw [e, ins_self] at hi
      cases hi
    · rintro ⟨h1, h2⟩
      rw [ins_eq h1]
      cases he : pfEq p x.p
      · rfl
      · exact absurd ((pfEq_iff _ _).1 he).symm h2
  constructor
  · rintro ⟨x, hx, hi⟩
    obtain ⟨k1, k2⟩ := (key x hx).1 hi
    have hm : x ∈ L.filter fun x => pcov p x.p := List.mem_filter.2 ⟨hx, k1⟩
    rw [← hpe, List.mem_append] at hm
    rcases hm with hm | hm
    · exact absurd ((mem_self h x).1 hm).2 k2
    · have := List.length_pos_of_mem hm
      rw [← hpe, List.length_append]
      omega
  · intro hl
    rw [← hpe, List.length_append] at hl
    have hpos : 0 < (kidsL p L).length := by omega
    obtain ⟨x, hx⟩ := List.exists_mem_of_length_pos hpos
    have hm : x ∈ L.filter fun x => pcov p x.p := by rw [← hpe]; exact List.mem_append_right _ hx
    obtain ⟨m1, m2⟩ := List.mem_filter.1 hm
    refine ⟨x, m1, (key x m1).2 ⟨m2, fun e => ?_⟩⟩
    -- x is itself and among the kids: twice in a list in order
    have hs := filter_srt h (fun x => pcov p x.p)
    rw [← hpe] at hs
    have := (List.pairwise_append.1 hs.2).2.2 x ((mem_self h x).2 ⟨m1, e⟩) x hx
    rw [pcmp_self] at this
    omega

end Go.Proofs.Ytnepmlhbheaonaa

namespace Go.Proofs.Ytnepmlhbheaonaa
open Go.RowKit
set_option maxRecDepth 100000

/-- At the head of a round of things done: the tree holds what the first k of them leave; its blocks are from N on. -/
def PlayRel (w : World) (N t : Nat) (ls : List Ac) (P : World → Prop) (n : Value) (wr : World) : Prop :=
  ∃ (k : Nat) (S : Nat → Prop), k ≤ ls.length ∧ n = .int .i64 k ∧ Trie wr t S (playK ls k).1 (playK ls k).2 ∧ (playK ls k).2 ≤ 2 + 128 * k ∧ (∀ b, S b → N ≤ b) ∧ Below w.heap.size w wr ∧ N ≤ wr.heap.size ∧ P wr
theorem play_next {w0 wr w2 : World} {N t : Nat} {ls : List Ac} {k : Nat} {S S2 : Nat → Prop} (hk : k < ls.length) (hN : ∀ b, S b → N ≤ b) (hz : N ≤ wr.heap.size) (hN0 : w0.heap.size ≤ N) (hB : Below w0.heap.size w0 wr)
    (g1 : Trie w2 t S2 (doQ ls[k] (playK ls k).1) (doM ls[k] (playK ls k).1 (playK ls k).2)) (g2 : Frm S wr w2) (g3 : Sub S S2 wr.heap.size) (g4 : doM ls[k] (playK ls k).1 (playK ls k).2 ≤ (playK ls k).2 + 128) (hm : (playK ls k).2 ≤ 2 + 128 * k) :
    Trie w2 t S2 (playK ls (k + 1)).1 (playK ls (k + 1)).2 ∧ (playK ls (k + 1)).2 ≤ 2 + 128 * (k + 1) ∧ (∀ b, S2 b → N ≤ b) ∧ Below w0.heap.size w0 w2 ∧ N ≤ w2.heap.size ∧ Below N wr w2 := by
  have hbn : Below N wr w2 := g2.below hN hz
  rw [playK_succ ls k hk]
  refine ⟨g1, by simp only; omega, fun b hb => ?_, hB.trans (hbn.mono hN0), Nat.le_trans hz g2.size, hbn⟩
  rcases g3 b hb with e | e
  · exact hN b e
  · omega
theorem put_twice {L : List Pr} {p q : Pf} {v : Int} (hs : Srt L) (hp : psane p = true) : (putQ p v (putQ p v L)).length = (if (lk L p).isSome = true then L.length else L.length + 1) ∧ getQ p (putQ p v (putQ p v L)) = some v ∧ (q ≠ p → getQ q (putQ p v (putQ p v L)) = getQ q L) := by
  unfold putQ getQ
  simp only [hp, if_true]
  have hs1 := put_srt (v := v) hs hp
  refine ⟨?_, ?_, fun hq => ?_⟩
  · rw [put_len hs1 hp, lk_put hs hp p, if_pos rfl]
    simp only [Option.isSome_some, if_true]
    exact put_len hs hp
  · rw [lk_put hs1 hp p, if_pos rfl]
  · rw [lk_put hs1 hp q, if_neg hq, lk_put hs hp q, if_neg hq]

end Go.Proofs.Ytnepmlhbheaonaa

namespace Go.Proofs.Ytnepmlhbheaonaa
open Go.RowKit
set_option maxRecDepth 100000

/-- How many of the first k contain an address. -/
def conN (L : List Pr) (a : Ad) (k : Nat) : Nat := ((L.take k).filter fun x => pcon x.p a).length
theorem conN_succ (L : List Pr) (a : Ad) {k : Nat} (h : k < L.length) : conN L a (k + 1) = conN L a k + if pcon L[k].p a = true then 1 else 0 := by
  unfold conN
  rw [List.take_succ_eq_append_getElem h, List.filter_append, List.length_append]
  by_cases hc : pcon L[k].p a = true
  · simp [hc]
  · simp [hc]
theorem conN_le (L : List Pr) (a : Ad) (k : Nat) : conN L a k ≤ L.length := by
  unfold conN
  have h1 := List.length_filter_le (fun x : Pr => pcon x.p a) (L.take k)
  have h2 := List.length_take_le k L
  have h3 : (L.take k).length ≤ L.length := by rw [List.length_take]; omega
  omega
theorem conN_all (L : List Pr) (a : Ad) : conN L a L.length = (L.filter fun x => pcon x.p a).length := by
  unfold conN
  rw [List.take_length]
/-- The last one of them. -/
theorem long_last (L : List Pr) (a : Ad) (F : List Pr) (hF : (L.filter fun x => pcon x.p a) = F) : (longL L a).isSome = decide (0 < F.length) ∧ ∀ m, F.length = m + 1 → F[m]? = some ((longL L a).getD nilPr) := by
  unfold longL
  rw [hF]
  constructor
  · cases F with
    | nil => rfl
    | cons x r => simp
  · intro m hm
    rw [List.getLast?_eq_getElem?, hm, Nat.add_sub_cancel, List.getElem?_eq_getElem (by omega)]
    rfl
theorem con_step' {L F : List Pr} {a : Ad} (h : Srt L) (hF : (L.filter fun x => pcon x.p a) = F) {i : Nat} (hi : i + 1 < F.length) : F[i].p.n < F[i + 1].p.n := by
  subst hF
  exact con_step h a hi

set_option maxHeartbeats 8000000 in
theorem longest_law (A : Option Addr) (cap : Nat) (ls : List Ac) (a : Ad) (w : World) (hr : RdA w A ls) :
    Calls Try.prog 11 #[.slice A ls.length cap, .agg #[.int .u64 (u a.hi), .int .u64 (u a.lo), .bool a.v6]] w fun e w' => e = .returned (.bool true) ∧ Below w.heap.size w w' := by
  have HR := Lib.hid hr
  clear hr
  by_cases hlen : 60 < ls.length
  · have t0 : decide ((60 : Int) < (ls.length : Int)) = true := by simp; omega
    go_enter Try.func11, Try.ntmps11
    go_wp2_with fail
    refine (awake5_any _).mono ?_
    rintro e w1 ⟨rfl, hw1⟩
    have b1 : Below w.heap.size w w1 := below_of (by go_grown) hw1
    go_wp2
    go_ret
    exact ⟨rfl, b1⟩
  · have t0 : decide ((60 : Int) < (ls.length : Int)) = false := by simp; omega
    go_enter Try.func11, Try.ntmps11
    go_wp2_with fail
    refine (awake5_any _).mono ?_
    rintro e w1 ⟨rfl, hw1⟩
    have b1 : Below w.heap.size w w1 := below_of (by go_grown) hw1
    have hA1 : ABox w1 w.heap.size a := ABox.keep ⟨by go_simp <;> rfl, by go_simp <;> rfl, by go_simp <;> rfl, by go_size⟩ hw1
    have HA1 := Lib.hid hA1
    clear hw1 hA1
    go_wp2_with fail
    refine (trie_new _).mono ?_
    rintro e w3 ⟨t, S3, rfl, hT3, hb3, hS3⟩
    have HA3 := Lib.hid (HA1.out.keep hb3)
    have b3 : Below w.heap.size w w3 := b1.trans (hb3.mono b1.size)
    have z1 : w.heap.size < w1.heap.size := HA1.out.2.2.2
    have n3 : ∀ b, S3 b → w.heap.size + 1 ≤ b := fun b hb => by have := hS3 b hb; omega
    have z3 : w.heap.size + 1 ≤ w3.heap.size := HA3.out.2.2.2
    have HT3 := Lib.hid hT3
    have HN3 := Lib.hid n3
    clear hT3 n3 hS3 hb3 HA1 b1
    go_wp2_with fail
    go_loopw [7] (fun n wr => PlayRel w (w.heap.size + 1) t ls (fun W => ABox W w.heap.size a) n wr) (fun n _ => ls.length - (intOf n).toNat)
    case atStart => exact ⟨0, S3, Nat.zero_le _, rfl, HT3.out, Nat.le_refl _, HN3.out, b3, z3, HA3.out⟩
    case round =>
      obtain ⟨k, S, hk, rfl, hT, hm, hN, hB, hz, hA⟩ := hrel
      have HT := Lib.hid hT
      have HN := Lib.hid hN
      have HA := Lib.hid hA
      clear hT hN hA HT3 HN3 HA3
      by_cases hlt : k < ls.length
      · obtain ⟨g, off, rfl, hg, hc⟩ := HR.out (by intro e; rw [e] at hlt; cases hlt)
        obtain ⟨c0, c1, c2, c3, c4, c5⟩ := hc k hlt
        have d0 := (hB.cell (p := ⟨g, off + k * 6, none⟩) hg).trans c0
        have d1 := (hB.cell (p := ⟨g, off + k * 6 + 1, none⟩) hg).trans c1
        have d2 := (hB.cell (p := ⟨g, off + k * 6 + 2, none⟩) hg).trans c2
        have d3 := (hB.cell (p := ⟨g, off + k * 6 + 3, none⟩) hg).trans c3
        have d4 := (hB.cell (p := ⟨g, off + k * 6 + 4, none⟩) hg).trans c4
        have d5 := (hB.cell (p := ⟨g, off + k * 6 + 5, none⟩) hg).trans c5
        clear c0 c1 c2 c3 c4 c5 hc
        obtain ⟨x, hx⟩ : ∃ x, ls[k] = x := ⟨_, rfl⟩
        rw [hx] at d0 d1 d2 d3 d4 d5
        have HXX := Lib.hid hx
        clear hx
        go_wp2_with fail
        refine (do_any HT.out (by omega) x).mono ?_
        rintro e w6 ⟨⟨rfl, S6, g1, g2, g3⟩, g4⟩
        rw [← HXX.out] at g1 g4
        obtain ⟨r1, r2, r3, r4, r5, r6⟩ := play_next hlt HN.out hz (by omega) hB g1 g2 g3 g4 hm
        have hQ1 := HA.out.frm g2 (fun e => by have := HN.out _ e; omega)
        have R1 := Lib.hid r1
        have R3 := Lib.hid r3
        clear g1 g2 g3 g4 r1 r3 r6 d0 d1 d2 d3 d4 d5
        go_wp2
        go_roundw
        case rel => exact ⟨k + 1, S6, by omega, by go_num, R1.out, r2, R3.out, r4, r5, hQ1⟩
        case measure => simp [intOf]; omega
      · have t1 : decide (k < ls.length) = false := by simp; omega
        have hM : (playK ls k).2 ≤ 20000 := by omega
        generalize (playK ls k).1 = L at HT
        generalize (playK ls k).2 = M at HT hM
        have hs := HT.out.srt
        have hln : L.length ≤ 100000 := by
          obtain ⟨T, -, hr, hl, -⟩ := HT.out
          have := rep_len hr
          omega
        obtain ⟨pa, pb, pc, pz⟩ := id HA.out
        have HS := Lib.hid hs
        clear hs hm HR b3
        go_wp2_with fail
        refine (pof_any a 128 _).mono ?_
        rintro e w4 ⟨rfl, hw4⟩
        have b4 := hB.trans (hw4.mono (by omega))
        have HT4 := Lib.hid (HT.out.keep hw4)
        have HA4 := Lib.hid (HA.out.keep hw4)
        clear hw4 HT HA pa pb pc pz
        obtain ⟨pa, pb, pc, pz⟩ := id HA4.out
        go_wp2_with fail
        refine (trie_above HT4.out (pof a 128)).mono ?_
        rintro e w5 ⟨v5, rfl, ho5, hw5⟩
        rw [above_con HS.out] at ho5
        obtain ⟨F, hF⟩ : ∃ F, L.filter (fun x => pcon x.p a) = F := ⟨_, rfl⟩
        rw [hF] at ho5
        have HF := Lib.hid hF
        have b5 := b4.trans (hw5.mono (by omega))
        have HT5 := Lib.hid (HT4.out.keep hw5)
        have HA5 := Lib.hid (HA4.out.keep hw5)
        have HO5 := Lib.hid ho5
        obtain ⟨A5, c5, rfl, -⟩ := own_val ho5
        clear hw5 ho5 hF HT4 HA4 pa pb pc pz
        obtain ⟨pa, pb, pc, pz⟩ := id HA5.out
        have hll := trie_longest HT5.out a
        have hla := long_last L a F HF.out
        obtain ⟨o, ho⟩ : ∃ o, longL L a = o := ⟨_, rfl⟩
        rw [ho] at hll hla
        obtain ⟨y, hy⟩ : ∃ y, o.getD nilPr = y := ⟨_, rfl⟩
        rw [hy] at hll hla
        rw [hla.1] at hll
        have HLL := Lib.hid hll
        have HLA := Lib.hid hla.2
        clear hll hla ho hy
        go_wp2_with fail
        refine HLL.out.mono ?_
        rintro e w6 ⟨rfl, hw6⟩
        have b6 := b5.trans (hw6.mono (by omega))
        have HT6 := Lib.hid (HT5.out.keep hw6)
        have HA6 := Lib.hid (HA5.out.keep hw6)
        have HO6 := Lib.hid (own_fresh HO5.out hw6)
        clear hw6 HT5 HA5 HO5 pa pb pc pz HLL
        have z6 : w.heap.size < w6.heap.size := HA6.out.2.2.2
        go_wp2_with fail
        refine (all_any (HT6.out.keep (by go_grown))).mono ?_
        rintro e w7 ⟨v7, rfl, ho7, hw7⟩
        have bA : Below w6.heap.size w6 w7 := Below.trans (by go_grown) (hw7.mono (by simp))
        have b7 := b6.trans (bA.mono (by omega))
        have HA7 := Lib.hid (HA6.out.keep bA)
        have HO7 := Lib.hid (own_fresh HO6.out bA)
        have HO8 := Lib.hid ho7
        have x0 : w7.cell? ⟨w6.heap.size, 0, none⟩ = some (.int .u64 (u y.p.a.hi)) := (hw7.cell (by go_size)).trans (by go_simp <;> rfl)
        have x1 : w7.cell? ⟨w6.heap.size, 1, none⟩ = some (.int .u64 (u y.p.a.lo)) := (hw7.cell (by go_size)).trans (by go_simp <;> rfl)
        have x2 : w7.cell? ⟨w6.heap.size, 2, none⟩ = some (.bool y.p.a.v6) := (hw7.cell (by go_size)).trans (by go_simp <;> rfl)
        have x3 : w7.cell? ⟨w6.heap.size, 3, none⟩ = some (.int .i64 y.p.n) := (hw7.cell (by go_size)).trans (by go_simp <;> rfl)
        have x4 : w7.cell? ⟨w6.heap.size, 4, none⟩ = some (.int .i64 y.v) := (hw7.cell (by go_size)).trans (by go_simp <;> rfl)
        have xz : w6.heap.size < w7.heap.size := by have := hw7.size; simp at this; omega
        obtain ⟨A8, c8, rfl, -⟩ := own_val ho7
        have z7 := b7.size
        clear hw7 ho7 bA HT6 HA6 HO6
        go_wp2_with fail
        go_loopw [12, 13] (fun n i wr => ∃ j : Nat, j ≤ L.length ∧ i = .int .i64 j ∧ n = .int .i64 (conN L a j) ∧ Below w7.heap.size w7 wr) (fun _ i _ => L.length - (intOf i).toNat)
        case atStart => exact ⟨0, Nat.zero_le _, rfl, rfl, Below.refl _ _⟩
        case round =>
          obtain ⟨j, hj, rfl, rfl, hB7⟩ := hrel
          by_cases hjl : j < L.length
          · have hcs := conN_succ L a hjl
            have hcl := conN_le L a j
            have HCS := Lib.hid hcs
            have tj : decide (j < L.length) = true := by simp; omega
            obtain ⟨qa, qb, qc, qz⟩ := id (HA7.out.keep hB7)
            obtain ⟨g, cg, eg, -, zg, hcc⟩ := row_cell (own_fresh HO8.out hB7) rfl hjl
            simp only [Value.slice.injEq, true_and] at eg
            obtain ⟨rfl, rfl⟩ := eg
            have m0 : wr.cell? ⟨g, j * 5, none⟩ = some (.int .u64 (u L[j].p.a.hi)) := hcc 0 (by omega)
            have m1 : wr.cell? ⟨g, j * 5 + 1, none⟩ = some (.int .u64 (u L[j].p.a.lo)) := hcc 1 (by omega)
            have m2 : wr.cell? ⟨g, j * 5 + 2, none⟩ = some (.bool L[j].p.a.v6) := hcc 2 (by omega)
            have m3 : wr.cell? ⟨g, j * 5 + 3, none⟩ = some (.int .i64 L[j].p.n) := hcc 3 (by omega)
            have m4 : wr.cell? ⟨g, j * 5 + 4, none⟩ = some (.int .i64 L[j].v) := hcc 4 (by omega)
            clear hcs hcc
            obtain ⟨y, hy⟩ : ∃ y, L[j] = y := ⟨_, rfl⟩
            rw [hy] at m0 m1 m2 m3 m4 HCS
            have hc9 : (conN L a j : Int) + 1 ≤ 200000 := by omega
            have j9 : (j : Int) + 1 ≤ 200000 := by omega
            have j0 : (0 : Int) ≤ (j : Int) := by omega
            have j1 : (j : Int) < (L.length : Int) := by omega
            rcases Nat.eq_zero_or_pos j with h0 | h0
            · subst h0
              clear hy
              obtain ⟨W, rfl⟩ : ∃ W, W = wr := ⟨_, rfl⟩
              go_wp2_with fail
              refine region_later W.heap.size (by kernel_rfl) (by kernel_rfl) ?_
              repeat (go_big_quiet_step (fail))
              refine wpQuiet_nil ?_
              intro x
              have hx := x.below
              generalize x.at = V at hx ⊢
              clear x
              have zV := hx.size
              have bV := hB7.trans (hx.mono hB7.size)
              have n0 := (hx.cell (p := ⟨g, 0 * 5, none⟩) zg).trans m0
              have n1 := (hx.cell (p := ⟨g, 0 * 5 + 1, none⟩) zg).trans m1
              have n2 := (hx.cell (p := ⟨g, 0 * 5 + 2, none⟩) zg).trans m2
              have n3 := (hx.cell (p := ⟨g, 0 * 5 + 3, none⟩) zg).trans m3
              have zg' : g < V.heap.size := Nat.lt_of_lt_of_le zg zV
              obtain ⟨qa', qb', qc', qz'⟩ := id (HA7.out.keep bV)
              clear hx m0 m1 m2 m3 m4 zg hB7 qa qb qc qz zV
              obtain ⟨W, rfl⟩ : ∃ W, W = V := ⟨_, rfl⟩
              have Ln0 := fun x : Later W.heap.size W => (x.cell (p := ⟨g, 0 * 5, none⟩) zg').trans n0
              have Ln1 := fun x : Later W.heap.size W => (x.cell (p := ⟨g, 0 * 5 + 1, none⟩) zg').trans n1
              have Ln2 := fun x : Later W.heap.size W => (x.cell (p := ⟨g, 0 * 5 + 2, none⟩) zg').trans n2
              have Ln3 := fun x : Later W.heap.size W => (x.cell (p := ⟨g, 0 * 5 + 3, none⟩) zg').trans n3
              have La := fun x : Later W.heap.size W => (x.cell qz').trans qa'
              have Lb := fun x : Later W.heap.size W => (x.cell qz').trans qb'
              have Lc := fun x : Later W.heap.size W => (x.cell qz').trans qc'
              go_wp2_with fail
              refine region_later W.heap.size (by kernel_rfl) (by kernel_rfl) ?_
              repeat (go_big_quiet_step ((go_at_call 28; exact later_of (Nat.le_refl _) (pcon_any y.p a _))))
              refine wpQuiet_nil ?_
              intro x
              have hx := x.below
              generalize x.at = V2 at hx ⊢
              clear x Ln0 Ln1 Ln2 Ln3 La Lb Lc n0 n1 n2 n3 qa' qb' qc' qz'
              have bV2 := bV.trans (hx.mono bV.size)
              clear hx
              cases hc : pcon y.p a
              · have HC' : Hid (conN L a (0 + 1) = conN L a 0) := by rw [HCS.out, hc]; exact Lib.hid rfl
                clear hc HCS
                go_wp2
                go_roundw
                case rel => exact ⟨0 + 1, by omega, by go_num, by rw [HC'.out], bV2⟩
                case measure => simp [intOf]; omega
              · have HC' : Hid (conN L a (0 + 1) = conN L a 0 + 1) := by rw [HCS.out, hc]; exact Lib.hid rfl
                clear hc HCS
                go_wp2
                go_roundw
                case rel => exact ⟨0 + 1, by omega, by go_num, by rw [HC'.out]; go_num, bV2⟩
                case measure => simp [intOf]; omega
            · clear tj j0 j1 j9
              obtain ⟨i, rfl⟩ : ∃ i, j = i + 1 := ⟨j - 1, by omega⟩
              have j9 : (i : Int) + 1 + 1 ≤ 200000 := by omega
              have j1 : (i : Int) + 1 < (L.length : Int) := by omega
              have hst := srt_step HS.out hjl
              rw [hy] at hst
              obtain ⟨y0, hy0⟩ : ∃ y0, L[i] = y0 := ⟨_, rfl⟩
              rw [hy0] at hst
              obtain ⟨g2, c2, e2, -, z2, hcc⟩ := row_cell (own_fresh HO8.out hB7) rfl (k := i) (by omega)
              simp only [Value.slice.injEq, Option.some.injEq, Addr.mk.injEq, true_and, and_true] at e2
              obtain ⟨rfl, rfl⟩ := e2
              rw [hy0] at hcc
              have o0 : wr.cell? ⟨g, i * 5, none⟩ = some (.int .u64 (u y0.p.a.hi)) := hcc 0 (by omega)
              have o1 : wr.cell? ⟨g, i * 5 + 1, none⟩ = some (.int .u64 (u y0.p.a.lo)) := hcc 1 (by omega)
              have o2 : wr.cell? ⟨g, i * 5 + 2, none⟩ = some (.bool y0.p.a.v6) := hcc 2 (by omega)
              have o3 : wr.cell? ⟨g, i * 5 + 3, none⟩ = some (.int .i64 y0.p.n) := hcc 3 (by omega)
              have cc : ∀ W : World, Calls Try.prog 30 #[.agg #[.int .u64 (u y0.p.a.hi), .int .u64 (u y0.p.a.lo), .bool y0.p.a.v6, .int .i64 y0.p.n], .agg #[.int .u64 (u y.p.a.hi), .int .u64 (u y.p.a.lo), .bool y.p.a.v6, .int .i64 y.p.n]] W fun e w' => e = .returned (.int .i64 (-1)) ∧ Below W.heap.size W w' := fun W => by
                have := pcmp_any y0.p y.p W
                rw [hst] at this
                exact this
              have CC := Lib.hid cc
              clear hy hy0 hcc cc hst
              obtain ⟨W, rfl⟩ : ∃ W, W = wr := ⟨_, rfl⟩
              have Lm0 := fun x : Later W.heap.size W => (x.cell (p := ⟨g, (i + 1) * 5, none⟩) zg).trans m0
              have Lm1 := fun x : Later W.heap.size W => (x.cell (p := ⟨g, (i + 1) * 5 + 1, none⟩) zg).trans m1
              have Lm2 := fun x : Later W.heap.size W => (x.cell (p := ⟨g, (i + 1) * 5 + 2, none⟩) zg).trans m2
              have Lm3 := fun x : Later W.heap.size W => (x.cell (p := ⟨g, (i + 1) * 5 + 3, none⟩) zg).trans m3
              have Lo0 := fun x : Later W.heap.size W => (x.cell (p := ⟨g, i * 5, none⟩) zg).trans o0
              have Lo1 := fun x : Later W.heap.size W => (x.cell (p := ⟨g, i * 5 + 1, none⟩) zg).trans o1
              have Lo2 := fun x : Later W.heap.size W => (x.cell (p := ⟨g, i * 5 + 2, none⟩) zg).trans o2
              have Lo3 := fun x : Later W.heap.size W => (x.cell (p := ⟨g, i * 5 + 3, none⟩) zg).trans o3
              have tj : (i : Int) < (L.length : Int) := by omega
              clear h0
              go_wp2_with fail
              have tg : decide ((0 : Int) < (i : Int) + 1) = true := decide_eq_true (by omega)
              refine region_later W.heap.size (by kernel_rfl) (by kernel_rfl) ?_
              repeat (go_big_quiet_step ((go_at_call 30; exact later_of (Nat.le_refl _) (CC.out _))))
              refine wpQuiet_nil ?_
              intro x
              clear Lm0 Lm1 Lm2 Lm3 Lo0 Lo1 Lo2 Lo3 o0 o1 o2 o3 CC
              have hx := x.below
              generalize x.at = V at hx ⊢
              clear x
              have zV := hx.size
              have bV := hB7.trans (hx.mono hB7.size)
              have n0 := (hx.cell (p := ⟨g, (i + 1) * 5, none⟩) zg).trans m0
              have n1 := (hx.cell (p := ⟨g, (i + 1) * 5 + 1, none⟩) zg).trans m1
              have n2 := (hx.cell (p := ⟨g, (i + 1) * 5 + 2, none⟩) zg).trans m2
              have n3 := (hx.cell (p := ⟨g, (i + 1) * 5 + 3, none⟩) zg).trans m3
              have zg' : g < V.heap.size := Nat.lt_of_lt_of_le zg zV
              obtain ⟨qa', qb', qc', qz'⟩ := id (HA7.out.keep bV)
              clear hx m0 m1 m2 m3 m4 zg hB7 qa qb qc qz zV
              obtain ⟨W, rfl⟩ : ∃ W, W = V := ⟨_, rfl⟩
              have Ln0 := fun x : Later W.heap.size W => (x.cell (p := ⟨g, (i + 1) * 5, none⟩) zg').trans n0
              have Ln1 := fun x : Later W.heap.size W => (x.cell (p := ⟨g, (i + 1) * 5 + 1, none⟩) zg').trans n1
              have Ln2 := fun x : Later W.heap.size W => (x.cell (p := ⟨g, (i + 1) * 5 + 2, none⟩) zg').trans n2
              have Ln3 := fun x : Later W.heap.size W => (x.cell (p := ⟨g, (i + 1) * 5 + 3, none⟩) zg').trans n3
              have La := fun x : Later W.heap.size W => (x.cell qz').trans qa'
              have Lb := fun x : Later W.heap.size W => (x.cell qz').trans qb'
              have Lc := fun x : Later W.heap.size W => (x.cell qz').trans qc'
              go_wp2_with fail
              refine region_later W.heap.size (by kernel_rfl) (by kernel_rfl) ?_
              repeat (go_big_quiet_step ((go_at_call 28; exact later_of (Nat.le_refl _) (pcon_any y.p a _))))
              refine wpQuiet_nil ?_
              intro x
              have hx := x.below
              generalize x.at = V2 at hx ⊢
              clear x Ln0 Ln1 Ln2 Ln3 La Lb Lc n0 n1 n2 n3 qa' qb' qc' qz'
              have bV2 := bV.trans (hx.mono bV.size)
              clear hx
              cases hc : pcon y.p a
              · have HC' : Hid (conN L a ((i + 1) + 1) = conN L a (i + 1)) := by rw [HCS.out, hc]; exact Lib.hid rfl
                clear hc HCS
                go_wp2
                go_roundw
                case rel => exact ⟨(i + 1) + 1, by omega, by go_num, by rw [HC'.out], bV2⟩
                case measure => simp [intOf]; omega
              · have HC' : Hid (conN L a ((i + 1) + 1) = conN L a (i + 1) + 1) := by rw [HCS.out, hc]; exact Lib.hid rfl
                clear hc HCS
                go_wp2
                go_roundw
                case rel => exact ⟨(i + 1) + 1, by omega, by go_num, by rw [HC'.out]; go_num, bV2⟩
                case measure => simp [intOf]; omega
          · obtain rfl : j = L.length := by omega
            have tj : decide ((L.length : Int) < (L.length : Int)) = false := by simp
            have hcA := conN_all L a
            rw [HF.out] at hcA
            have hFl : F.length ≤ L.length := by rw [← HF.out]; exact List.length_filter_le _ _
            have b8 := b7.trans (hB7.mono z7)
            have HO9 := Lib.hid (own_fresh HO7.out hB7)
            have y0 := (hB7.cell (p := ⟨w6.heap.size, 0, none⟩) xz).trans x0
            have y1 := (hB7.cell (p := ⟨w6.heap.size, 1, none⟩) xz).trans x1
            have y2 := (hB7.cell (p := ⟨w6.heap.size, 2, none⟩) xz).trans x2
            have y3 := (hB7.cell (p := ⟨w6.heap.size, 3, none⟩) xz).trans x3
            have y4 := (hB7.cell (p := ⟨w6.heap.size, 4, none⟩) xz).trans x4
            have yz : w6.heap.size < wr.heap.size := Nat.lt_of_lt_of_le xz hB7.size
            obtain ⟨w8, rfl⟩ : ∃ w8, w8 = wr := ⟨_, rfl⟩
            have HCA := Lib.hid hcA
            clear x0 x1 x2 x3 x4 xz hB7 HO7 HO8 HA7 hcA
            rw [HCA.out]
            go_wp2_with fail
            go_loopw [14] (fun i wr => ∃ j : Nat, 1 ≤ j ∧ (j ≤ F.length ∨ j = 1) ∧ i = .int .i64 j ∧ Below w8.heap.size w8 wr) (fun i _ => F.length - (intOf i).toNat)
            case atStart => exact ⟨1, Nat.le_refl _, .inr rfl, rfl, Below.refl _ _⟩
            case round =>
              obtain ⟨j, hj1, hj2, rfl, hB8⟩ := hrel
              by_cases hjl : j < F.length
              · obtain ⟨i, rfl⟩ : ∃ i, j = i + 1 := ⟨j - 1, by omega⟩
                have hst := con_step' HS.out HF.out hjl
                obtain ⟨g, cg, eg, -, zg, hcc⟩ := row_cell (own_fresh HO9.out hB8) rfl hjl
                simp only [Value.slice.injEq, true_and] at eg
                obtain ⟨rfl, rfl⟩ := eg
                have m3 : wr.cell? ⟨g, (i + 1) * 5 + 3, none⟩ = some (.int .i64 F[i + 1].p.n) := hcc 3 (by omega)
                obtain ⟨g2, c2, e2, -, z2, hcc2⟩ := row_cell (own_fresh HO9.out hB8) rfl (k := i) (by omega)
                simp only [Value.slice.injEq, Option.some.injEq, Addr.mk.injEq, true_and, and_true] at e2
                obtain ⟨rfl, rfl⟩ := e2
                have o3 : wr.cell? ⟨g, i * 5 + 3, none⟩ = some (.int .i64 F[i].p.n) := hcc2 3 (by omega)
                generalize F[i + 1].p.n = N1 at m3 hst
                generalize F[i].p.n = N0 at o3 hst
                have tn : decide (N1 ≤ N0) = false := decide_eq_false (by omega)
                have j9 : (i : Int) + 1 + 1 ≤ 200000 := by omega
                have j1 : (i : Int) + 1 < (F.length : Int) := by omega
                have j2 : (i : Int) < (F.length : Int) := by omega
                clear hcc hcc2 hst
                obtain ⟨W, rfl⟩ : ∃ W, W = wr := ⟨_, rfl⟩
                have Lm3 := fun x : Later W.heap.size W => (x.cell (p := ⟨g, (i + 1) * 5 + 3, none⟩) zg).trans m3
                have Lo3 := fun x : Later W.heap.size W => (x.cell (p := ⟨g, i * 5 + 3, none⟩) zg).trans o3
                go_wp2_with fail
                refine region_later W.heap.size (by kernel_rfl) (by kernel_rfl) ?_
                repeat (go_big_quiet_step (fail))
                refine wpQuiet_nil ?_
                intro x
                have hx := x.below
                generalize x.at = V at hx ⊢
                clear x Lm3 Lo3 m3 o3
                go_wp2
                go_roundw
                case rel => exact ⟨i + 1 + 1, by omega, by omega, by go_num, hB8.trans (hx.mono hB8.size)⟩
                case measure => simp [intOf]; omega
              · have tj2 : decide ((j : Int) < (F.length : Int)) = false := decide_eq_false (by omega)
                have b9 := b8.trans (hB8.mono b8.size)
                replace y0 := (hB8.cell (p := ⟨w6.heap.size, 0, none⟩) yz).trans y0
                replace y1 := (hB8.cell (p := ⟨w6.heap.size, 1, none⟩) yz).trans y1
                replace y2 := (hB8.cell (p := ⟨w6.heap.size, 2, none⟩) yz).trans y2
                replace y3 := (hB8.cell (p := ⟨w6.heap.size, 3, none⟩) yz).trans y3
                replace y4 := (hB8.cell (p := ⟨w6.heap.size, 4, none⟩) yz).trans y4
                have yz' : w6.heap.size < wr.heap.size := Nat.lt_of_lt_of_le yz hB8.size
                rcases Nat.eq_zero_or_pos F.length with hf0 | hf0
                · have hF0 : F = [] := List.eq_nil_of_length_eq_zero hf0
                  subst hF0
                  obtain ⟨W, rfl⟩ : ∃ W, W = wr := ⟨_, rfl⟩
                  clear y0 y1 y2 y3 y4
                  go_wp2_with fail
                  refine region_later W.heap.size (by kernel_rfl) (by kernel_rfl) ?_
                  repeat (go_big_quiet_step (fail))
                  refine wpQuiet_nil ?_
                  intro x
                  have hx := x.below
                  generalize x.at = V at hx ⊢
                  clear x
                  go_wp2
                  go_ret
                  exact ⟨rfl, b9.trans (hx.mono b9.size)⟩
                · obtain ⟨m, hm⟩ : ∃ m, F.length = m + 1 := ⟨F.length - 1, by omega⟩
                  have hml : m < F.length := by omega
                  have hFm : F[m] = y := by
                    have := HLA.out m hm
                    rw [List.getElem?_eq_getElem hml] at this
                    exact Option.some.inj this
                  obtain ⟨g, cg, eg, -, zg, hcc⟩ := row_cell (own_fresh HO9.out hB8) rfl hml
                  simp only [Value.slice.injEq, true_and] at eg
                  obtain ⟨rfl, rfl⟩ := eg
                  have o0 : wr.cell? ⟨g, m * 5, none⟩ = some (.int .u64 (u F[m].p.a.hi)) := hcc 0 (by omega)
                  have o1 : wr.cell? ⟨g, m * 5 + 1, none⟩ = some (.int .u64 (u F[m].p.a.lo)) := hcc 1 (by omega)
                  have o2 : wr.cell? ⟨g, m * 5 + 2, none⟩ = some (.bool F[m].p.a.v6) := hcc 2 (by omega)
                  have o3 : wr.cell? ⟨g, m * 5 + 3, none⟩ = some (.int .i64 F[m].p.n) := hcc 3 (by omega)
                  have o4 : wr.cell? ⟨g, m * 5 + 4, none⟩ = some (.int .i64 F[m].v) := hcc 4 (by omega)
                  rw [hFm] at o0 o1 o2 o3 o4
                  rw [hm]
                  have HM := Lib.hid hm
                  have tj3 : ¬ (j : Int) < (m : Int) + 1 := by omega
                  have m9 : (m : Int) + 1 ≤ 200000 := by omega
                  clear hm hml hFm hcc tj2 hf0 hjl hj1 hj2 hFl HO9 hB8
                  obtain ⟨W, rfl⟩ : ∃ W, W = wr := ⟨_, rfl⟩
                  have Lo0 := fun x : Later W.heap.size W => (x.cell (p := ⟨g, m * 5, none⟩) zg).trans o0
                  have Lo1 := fun x : Later W.heap.size W => (x.cell (p := ⟨g, m * 5 + 1, none⟩) zg).trans o1
                  have Lo2 := fun x : Later W.heap.size W => (x.cell (p := ⟨g, m * 5 + 2, none⟩) zg).trans o2
                  have Lo3 := fun x : Later W.heap.size W => (x.cell (p := ⟨g, m * 5 + 3, none⟩) zg).trans o3
                  have Lo4 := fun x : Later W.heap.size W => (x.cell (p := ⟨g, m * 5 + 4, none⟩) zg).trans o4
                  have Ly0 := fun x : Later W.heap.size W => (x.cell yz').trans y0
                  have Ly1 := fun x : Later W.heap.size W => (x.cell yz').trans y1
                  have Ly2 := fun x : Later W.heap.size W => (x.cell yz').trans y2
                  have Ly3 := fun x : Later W.heap.size W => (x.cell yz').trans y3
                  have Ly4 := fun x : Later W.heap.size W => (x.cell yz').trans y4
                  go_wp2_with fail
                  refine region_later W.heap.size (by kernel_rfl) (by kernel_rfl) ?_
                  repeat (go_big_quiet_step (fail))
                  refine wpQuiet_nil ?_
                  intro x
                  have hx := x.below
                  generalize x.at = V at hx ⊢
                  clear x Lo0 Lo1 Lo2 Lo3 Lo4 Ly0 Ly1 Ly2 Ly3 Ly4
                  go_wp2
                  go_ret
                  exact ⟨rfl, b9.trans (hx.mono b9.size)⟩

end Go.Proofs.Ytnepmlhbheaonaa

namespace Go.Proofs.Ytnepmlhbheaonaa
open Go.ChangeShapes Go.WideShapes Go.ChangeAt Go.RowKit

set_option maxRecDepth 100000 in
theorem trieLongest_lifted (os : Os) (started : os.Started) (H : Type) (enc : TypeId × Value → H) :
    ReturnsInHanded {} Try.checked os 11 .any (Rows.trieLongestSpec.pre6 enc Try.prog Try.f11 Rows.trieLongestRow.domain false) (Rows.trieLongestSpec.post enc Try.prog Try.f11 false true false false) := by
  refine returnsInHanded_of_change (C := Try.checked) own started (by kernel_rfl) Try.func11
    (ChangeSpec.witness6 (enc := enc) (C := Try.checked) false ⟨#[], #[.slice none 0 0, .agg #[.int .u64 0, .int .u64 0, .bool false]], []⟩ 8 (by kernel_rfl) (by kernel_rfl) (by kernel_rfl) (by kernel_rfl)) ?_
  intro W base args ds gs before hval0 hW hcnd _
  have hval : ∀ (j : Nat) t v, Try.f11.params[j]? = some t → args[j]? = some v → Value.okWide Try.prog W .any base t v := hval0
  have hW' := hW
  obtain ⟨p, q, hA0, hV, rfl, hfz, hnd⟩ := hW
  have hA : DataW.TrodAll enc Try.prog W 0 (fun _ => true) true Try.f11.params.toList args.toList ds p := hA0
  rw [Try.params11] at hA hval
  obtain ⟨v0, vs0, d0, ds0, p0, q0, hargs, rfl, rfl, h0, r0⟩ := trodAll_cons hA
  obtain ⟨v1, vs1, d1, ds1, p1, q1, rfl, rfl, rfl, h1, r1⟩ := trodAll_cons r0
  obtain ⟨rfl, rfl, rfl⟩ := trodAll_nil r1
  obtain rfl : args = #[v0, v1] := by cases args; simp_all
  obtain ⟨rfl, rfl⟩ := trodVars_none hV
  have lt0 : ∀ x ∈ p0, x.block < W.heap.size := by obtain ⟨m, hm⟩ := h0; exact DataW.trod_lt m _ _ _ hm
  obtain ⟨A0, cap0, l0, rfl, w0⟩ := open_acs (hval 0 66 v0 rfl rfl) h0 (fun _ => rfl)
  have lt1 : ∀ x ∈ p1, x.block < W.heap.size := by obtain ⟨m, hm⟩ := h1; exact DataW.trod_lt m _ _ _ hm
  obtain ⟨a1, rfl⟩ := open_ad (hval 1 24 v1 rfl rfl) h1
  clear hA0 hval0
  refine (longest_law A0 cap0 l0 a1 W w0).mono fun e W' ⟨he, bel⟩ => ?_
  subst he
  exact ⟨_, rfl, _, _, _, [], _, [], hW', trodAll_mk1 (shut_bool Try.underlying4 _), (trodAll_cons_mk (Below.trod laidOut (by kernel_rfl) (of_decide_eq_true (by kernel_rfl)) h0 bel lt0) (trodAll_cons_mk (Below.trod laidOut (by kernel_rfl) (of_decide_eq_true (by kernel_rfl)) h1 bel lt1) trodAll_mk0)), rfl, bel.frame _, fun h => by cases h⟩

theorem trieLongest_holds : Rows.TrieLongestSaid :=
  OpenClaim.holds_of_wide 11 Try.f11 rfl rfl rfl rfl rfl rfl rfl ⟨rfl, rfl, rfl, rfl, rfl⟩ rfl rfl rfl rfl rfl (by kernel_rfl) Try.func11 (by kernel_rfl)
    (of_decide_eq_true (by kernel_rfl)) (by unfold Func.isWrapper; first | (rw [if_pos (by decide +kernel)]; kernel_rfl) | (rw [if_neg (by decide +kernel)]; exact ⟨rfl, rfl⟩))
    (fun os started H enc _ => trieLongest_lifted os started H enc)

end Go.Proofs.Ytnepmlhbheaonaa
