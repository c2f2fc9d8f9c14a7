/-
  TrieGone: for every input the call returns true, and each argument reads afterwards as it read before. No condition.
-/
import Derived.Test.YtnmafhfjimagnaaE1
import Derived.Test.YtnmafhfjimagnaaQf
import Derived.Laws.AppendOwnNone
import Derived.Test.YtnmafhfjimagnaaRowP
import Derived.Deep.Slices
namespace Go.Proofs.Ytnmafhfjimagnaa
open Go.RowKit
set_option maxRecDepth 100000

/-- At the head of a round of things done: the tree holds what the first k of them leave; its blocks are from N on. -/
def PlayRel (w : World) (N t : Nat) (ls : List Ac) (P : World → Prop) (n : Value) (wr : World) : Prop :=
  ∃ (k : Nat) (S : Nat → Prop), k ≤ ls.length ∧ n = .int .i64 k ∧ Trie wr t S (playK ls k).1 (playK ls k).2 ∧ (playK ls k).2 ≤ 2 + 128 * k ∧ (∀ b, S b → N ≤ b) ∧ Below w.heap.size w wr ∧ N ≤ wr.heap.size ∧ P wr
theorem play_next {w0 wr w2 : World} {N t : Nat} {ls : List Ac} {k : Nat} {S S2 : Nat → Prop} (hk : k < ls.length) (hN : ∀ b, S b → N ≤ b) (hz : N ≤ wr.heap.size) (hN0 : w0.heap.size ≤ N) (hB : Below w0.heap.size w0 wr)
    (g1 : Trie w2 t S2 (doQ ls[k] (playK ls k).1) (doM ls[k] (playK ls k).1 (playK ls k).2)) (g2 : Frm S wr w2) (g3 : Sub S S2 wr.heap.size) (g4 : doM ls[k] (playK ls k).1 (playK ls k).2 ≤ (playK ls k).2 + 128) (hm : (playK ls k).2 ≤ 2 + 128 * k) :
    Trie w2 t S2 (playK ls (k + 1)).1 (playK ls (k + 1)).2 ∧ (playK ls (k + 1)).2 ≤ 2 + 128 * (k + 1) ∧ (∀ b, S2 b → N ≤ b) ∧ Below w0.heap.size w0 w2 ∧ N ≤ w2.heap.size ∧ Below N wr w2 := by
  have hbn : Below N wr w2 := g2.below hN hz
  rw [playK_succ ls k hk]
  refine ⟨g1, by simp only; omega, fun b hb => ?_, hB.trans (hbn.mono hN0), Nat.le_trans hz g2.size, hbn⟩
  rcases g3 b hb with e | e
  · exact hN b e
  · omega
theorem put_twice {L : List Pr} {p q : Pf} {v : Int} (hs : Srt L) (hp : psane p = true) : (putQ p v (putQ p v L)).length = (if (lk L p).isSome = true then L.length else L.length + 1) ∧ getQ p (putQ p v (putQ p v L)) = some v ∧ (q ≠ p → getQ q (putQ p v (putQ p v L)) = getQ q L) := by
  unfold putQ getQ
  simp only [hp, if_true]
  have hs1 := put_srt (v := v) hs hp
  refine ⟨?_, ?_, fun hq => ?_⟩
  · rw [put_len hs1 hp, lk_put hs hp p, if_pos rfl]
    simp only [Option.isSome_some, if_true]
    exact put_len hs hp
  · rw [lk_put hs1 hp p, if_pos rfl]
  · rw [lk_put hs1 hp q, if_neg hq, lk_put hs hp q, if_neg hq]

set_option maxHeartbeats 4000000 in
theorem put_law (A : Option Addr) (cap : Nat) (ls : List Ac) (p : Pf) (v : Int) (q : Pf) (w : World) (hr : RdA w A ls) :
    Calls Try.prog 9 #[.slice A ls.length cap, .agg #[.int .u64 (u p.a.hi), .int .u64 (u p.a.lo), .bool p.a.v6, .int .i64 p.n], .int .i64 v, .agg #[.int .u64 (u q.a.hi), .int .u64 (u q.a.lo), .bool q.a.v6, .int .i64 q.n]] w fun e w' => e = .returned (.bool true) ∧ Below w.heap.size w w' := by
  have HR := Lib.hid hr
  clear hr
  by_cases hlen : 60 < ls.length
  · have t0 : decide ((60 : Int) < (ls.length : Int)) = true := by simp; omega
    go_enter Try.func9, Try.ntmps9
    go_wp2_with fail
    refine (awake5_any _).mono ?_
    rintro e w1 ⟨rfl, hw1⟩
    have b1 : Below w.heap.size w w1 := below_of (by go_grown) hw1
    go_wp2
    go_ret
    exact ⟨rfl, b1⟩
  · have t0 : decide ((60 : Int) < (ls.length : Int)) = false := by simp; omega
    cases hp : psane p
    · have hs' : (!psane p) = true := by simp [hp]
      clear hp
      go_enter Try.func9, Try.ntmps9
      go_wp2_with fail
      refine (awake5_any _).mono ?_
      rintro e w1 ⟨rfl, hw1⟩
      have zw1 := hw1.size
      have bw1 := below_of (w := w) (by go_grown) hw1
      try simp at zw1
      obtain ⟨p1a, p1b, p1c, p1g, p1d, p1e, p1f, p1h, p1z⟩ := cells4 (b := w.heap.size) hw1 (by go_size) (by go_simp <;> rfl) (by go_simp <;> rfl) (by go_simp <;> rfl) (by go_simp <;> rfl) (by go_simp <;> rfl) (by go_simp <;> rfl) (by go_simp <;> rfl) (by go_simp <;> rfl)
      clear hw1
      go_wp2_with fail
      refine (rpsane_any p _).mono ?_
      rintro e w2 ⟨rfl, hw2⟩
      have zw2 := hw2.size
      have bw2 := below_of (w := w) (by go_grown) hw2
      try simp at zw2
      have hw1b := below_of (w := w1) (by go_grown) hw2
      obtain ⟨p2a, p2b, p2c, p2g, p2d, p2e, p2f, p2h, p2z⟩ := cells4 hw1b p1z p1a p1b p1c p1g p1d p1e p1f p1h
      clear p1a p1b p1c p1g p1d p1e p1f p1h p1z hw2 hw1b
      go_wp2
      go_ret
      exact ⟨rfl, bw2⟩
    · have hs' : (!psane p) = false := by simp [hp]
      have HP := Lib.hid hp
      clear hp
      go_enter Try.func9, Try.ntmps9
      go_wp2_with fail
      refine (awake5_any _).mono ?_
      rintro e w1 ⟨rfl, hw1⟩
      have zw1 := hw1.size
      have bw1 := below_of (w := w) (by go_grown) hw1
      try simp at zw1
      obtain ⟨p3a, p3b, p3c, p3g, p3d, p3e, p3f, p3h, p3z⟩ := cells4 (b := w.heap.size) hw1 (by go_size) (by go_simp <;> rfl) (by go_simp <;> rfl) (by go_simp <;> rfl) (by go_simp <;> rfl) (by go_simp <;> rfl) (by go_simp <;> rfl) (by go_simp <;> rfl) (by go_simp <;> rfl)
      obtain ⟨q3a, q3b, q3c, q3g, q3d, q3e, q3f, q3h, q3z⟩ := cells4 (b := w.heap.size + 1) hw1 (by go_size) (by go_simp <;> rfl) (by go_simp <;> rfl) (by go_simp <;> rfl) (by go_simp <;> rfl) (by go_simp <;> rfl) (by go_simp <;> rfl) (by go_simp <;> rfl) (by go_simp <;> rfl)
      clear hw1
      go_wp2_with fail
      refine (rpsane_any p _).mono ?_
      rintro e w2 ⟨rfl, hw2⟩
      have zw2 := hw2.size
      have bw2 := below_of (w := w) (by go_grown) hw2
      try simp at zw2
      have hw1b := below_of (w := w1) (by go_grown) hw2
      obtain ⟨p4a, p4b, p4c, p4g, p4d, p4e, p4f, p4h, p4z⟩ := cells4 hw1b p3z p3a p3b p3c p3g p3d p3e p3f p3h
      obtain ⟨q4a, q4b, q4c, q4g, q4d, q4e, q4f, q4h, q4z⟩ := cells4 hw1b q3z q3a q3b q3c q3g q3d q3e q3f q3h
      clear p3a p3b p3c p3g p3d p3e p3f p3h p3z q3a q3b q3c q3g q3d q3e q3f q3h q3z hw2 hw1b
      go_wp2_with fail
      refine (trie_new _).mono ?_
      rintro e w3 ⟨t, S3, rfl, hT3, hb3, hS3⟩
      have hPp : PBox w3 w.heap.size p := PBox.keep ⟨p4a, p4b, p4c, p4g, p4d, p4e, p4f, p4h, p4z⟩ hb3
      have hPq : PBox w3 (w.heap.size + 1) q := PBox.keep ⟨q4a, q4b, q4c, q4g, q4d, q4e, q4f, q4h, q4z⟩ hb3
      have b3 : Below w.heap.size w w3 := bw2.trans (hb3.mono bw2.size)
      have n3 : ∀ b, S3 b → w.heap.size + 1 + 1 ≤ b := fun b hb => by have := hS3 b hb; omega
      have z3 : w.heap.size + 1 + 1 ≤ w3.heap.size := by have := hPq.2.2.2.2.2.2.2.2; omega
      clear p4a p4b p4c p4g p4d p4e p4f p4h p4z q4a q4b q4c q4g q4d q4e q4f q4h q4z
      clear hS3 hb3
      have HT3 := Lib.hid hT3
      have HN3 := Lib.hid n3
      clear hT3 n3
      go_wp2_with fail
      go_loopw [11] (fun n wr => PlayRel w (w.heap.size + 1 + 1) t ls (fun W => PBox W w.heap.size p ∧ PBox W (w.heap.size + 1) q) n wr) (fun n _ => ls.length - (intOf n).toNat)
      case atStart => exact ⟨0, S3, Nat.zero_le _, rfl, HT3.out, Nat.le_refl _, HN3.out, b3, z3, hPp, hPq⟩
      case round =>
        obtain ⟨k, S, hk, rfl, hT, hm, hN, hB, hz, hP1, hP2⟩ := hrel
        have HT := Lib.hid hT
        have HN := Lib.hid hN
        have HP1 := Lib.hid hP1
        have HP2 := Lib.hid hP2
        clear hT hN hP1 hP2 hPp hPq HT3 HN3
        by_cases hlt : k < ls.length
        · obtain ⟨g, off, rfl, hg, hc⟩ := HR.out (by intro e; rw [e] at hlt; cases hlt)
          obtain ⟨c0, c1, c2, c3, c4, c5⟩ := hc k hlt
          have d0 := (hB.cell (p := ⟨g, off + k * 6, none⟩) hg).trans c0
          have d1 := (hB.cell (p := ⟨g, off + k * 6 + 1, none⟩) hg).trans c1
          have d2 := (hB.cell (p := ⟨g, off + k * 6 + 2, none⟩) hg).trans c2
          have d3 := (hB.cell (p := ⟨g, off + k * 6 + 3, none⟩) hg).trans c3
          have d4 := (hB.cell (p := ⟨g, off + k * 6 + 4, none⟩) hg).trans c4
          have d5 := (hB.cell (p := ⟨g, off + k * 6 + 5, none⟩) hg).trans c5
          have HX : Hid (ls[k] = ls[k]) := Lib.hid rfl
          clear c0 c1 c2 c3 c4 c5 hc
          obtain ⟨x, hx⟩ : ∃ x, ls[k] = x := ⟨_, rfl⟩
          rw [hx] at d0 d1 d2 d3 d4 d5
          have HXX := Lib.hid hx
          clear hx HX
          go_wp2_with fail
          refine (do_any HT.out (by omega) x).mono ?_
          rintro e w6 ⟨⟨rfl, S6, g1, g2, g3⟩, g4⟩
          rw [← HXX.out] at g1 g4
          obtain ⟨r1, r2, r3, r4, r5, r6⟩ := play_next hlt HN.out hz (by omega) hB g1 g2 g3 g4 hm
          have hQ1 := HP1.out.frm g2 (fun e => by have := HN.out _ e; omega)
          have hQ2 := HP2.out.frm g2 (fun e => by have := HN.out _ e; omega)
          have R1 := Lib.hid r1
          have R3 := Lib.hid r3
          clear g1 g2 g3 g4 r1 r3 r6 d0 d1 d2 d3 d4 d5
          go_wp2
          go_roundw
          case rel => exact ⟨k + 1, S6, by omega, by go_num, R1.out, r2, R3.out, r4, r5, hQ1, hQ2⟩
          case measure => simp [intOf]; omega
        · have bB := hB
          have hs := HT.out.srt
          obtain ⟨T1, T2, T3⟩ := put_twice (L := (playK ls k).1) (p := p) (q := q) (v := v) hs HP.out
          have t1 : decide (k < ls.length) = false := by simp; omega
          have hM : (playK ls k).2 ≤ 20000 := by omega
          generalize (playK ls k).1 = L at HT T1 T2 T3 hs
          generalize (playK ls k).2 = M at HT hM
          have hM2 : putM p v L M ≤ M + 128 ∨ True := .inr trivial
          obtain ⟨G1, hG1⟩ : ∃ G1, getQ p L = G1 := ⟨_, rfl⟩
          obtain ⟨G2, hG2⟩ : ∃ G2, getQ q L = G2 := ⟨_, rfl⟩
          have hlk : lk L p = G1 := by rw [← hG1]; unfold getQ; rw [if_pos HP.out]
          have hE : putE p = 0 := by unfold putE; rw [if_pos HP.out]
          rw [hlk] at T1
          rw [hG2] at T3
          have HG1 := Lib.hid hG1
          have HG2 := Lib.hid hG2
          have HT1 := Lib.hid T1
          have HT2 := Lib.hid T2
          have HT3 := Lib.hid T3
          have HE := Lib.hid hE
          have hln : (L.length : Int) ≤ 100000 := by
            obtain ⟨T, -, hr, hl, -⟩ := HT.out
            have := rep_len hr
            omega
          obtain ⟨pa, pb, pc, pd, -⟩ := id HP1.out
          obtain ⟨qa, qb, qc, qd, -⟩ := id HP2.out
          clear hG1 hG2 T1 T2 T3 hE hlk hs HR hB b3 hM2 hm
          go_wp2_with fail
          refine (trie_len HT.out).mono ?_
          rintro e w4 ⟨rfl, rfl⟩
          have c1 := trie_get HT.out p
          rw [HG1.out] at c1
          have C1 := Lib.hid c1
          clear c1
          go_wp2_with fail
          refine (C1.out).mono ?_
          rintro e w5 ⟨rfl, hw5⟩
          have bw5 := bB.trans (hw5.mono (by omega))
          have HT' := Lib.hid (HT.out.keep hw5)
          have HP1' := Lib.hid (HP1.out.keep hw5)
          have HP2' := Lib.hid (HP2.out.keep hw5)
          have zw5 := hw5.size
          clear hw5 HT HP1 HP2 bB pa pb pc pd qa qb qc qd
          have HT := HT'
          have HP1 := HP1'
          have HP2 := HP2'
          have bB := bw5
          clear HT' HP1' HP2' bw5
          obtain ⟨pa, pb, pc, pd, -⟩ := id HP1.out
          obtain ⟨qa, qb, qc, qd, -⟩ := id HP2.out
          have c2 := trie_get HT.out q
          rw [HG2.out] at c2
          have C2 := Lib.hid c2
          clear c2 C1
          go_wp2_with fail
          refine (C2.out).mono ?_
          rintro e w6 ⟨rfl, hw6⟩
          have bw6 := bB.trans (hw6.mono (by omega))
          have HT' := Lib.hid (HT.out.keep hw6)
          have HP1' := Lib.hid (HP1.out.keep hw6)
          have HP2' := Lib.hid (HP2.out.keep hw6)
          have zw6 := hw6.size
          clear hw6 HT HP1 HP2 bB pa pb pc pd qa qb qc qd
          have HT := HT'
          have HP1 := HP1'
          have HP2 := HP2'
          have bB := bw6
          clear HT' HP1' HP2' bw6
          obtain ⟨pa, pb, pc, pd, -⟩ := id HP1.out
          obtain ⟨qa, qb, qc, qd, -⟩ := id HP2.out
          have c3 := trie_put HT.out (by omega) p v
          rw [HE.out] at c3
          have C3 := Lib.hid c3
          clear c3 C2
          go_wp2_with fail
          refine (C3.out).mono ?_
          rintro e w7 ⟨⟨rfl, Sw7, g1, g2, g3⟩, g4⟩
          have bw7 : Below w.heap.size w w7 := bB.trans (g2.below (fun b hb => by have := HN.out b hb; omega) (by omega))
          have HP1' := Lib.hid (HP1.out.frm g2 (fun e => by have := HN.out _ e; omega))
          have HP2' := Lib.hid (HP2.out.frm g2 (fun e => by have := HN.out _ e; omega))
          have nw7 : ∀ b, Sw7 b → w.heap.size + 1 + 1 ≤ b := fun b hb => by
            rcases g3 b hb with e | e
            · exact HN.out b e
            · omega
          have HT' := Lib.hid g1
          have HN' := Lib.hid nw7
          have zw7 := g2.size
          clear g1 g2 g3 nw7 HT HP1 HP2 HN bB pa pb pc pd qa qb qc qd
          have HT := HT'
          have HN := HN'
          have HP1 := HP1'
          have HP2 := HP2'
          have bB := bw7
          clear HT' HP1' HP2' HN' bw7
          obtain ⟨pa, pb, pc, pd, -⟩ := id HP1.out
          obtain ⟨qa, qb, qc, qd, -⟩ := id HP2.out
          have c4 := trie_put HT.out (by omega) p v
          rw [HE.out] at c4
          have C4 := Lib.hid c4
          have g47 := g4
          clear c4 C3 g4
          go_wp2_with fail
          refine (C4.out).mono ?_
          rintro e w8 ⟨⟨rfl, Sw8, g1, g2, g3⟩, g4⟩
          have bw8 : Below w.heap.size w w8 := bB.trans (g2.below (fun b hb => by have := HN.out b hb; omega) (by omega))
          have HP1' := Lib.hid (HP1.out.frm g2 (fun e => by have := HN.out _ e; omega))
          have HP2' := Lib.hid (HP2.out.frm g2 (fun e => by have := HN.out _ e; omega))
          have nw8 : ∀ b, Sw8 b → w.heap.size + 1 + 1 ≤ b := fun b hb => by
            rcases g3 b hb with e | e
            · exact HN.out b e
            · omega
          have HT' := Lib.hid g1
          have HN' := Lib.hid nw8
          have zw8 := g2.size
          clear g1 g2 g3 nw8 HT HP1 HP2 HN bB pa pb pc pd qa qb qc qd
          have HT := HT'
          have HN := HN'
          have HP1 := HP1'
          have HP2 := HP2'
          have bB := bw8
          clear HT' HP1' HP2' HN' bw8
          obtain ⟨pa, pb, pc, pd, -⟩ := id HP1.out
          obtain ⟨qa, qb, qc, qd, -⟩ := id HP2.out
          have c5 := trie_get HT.out p
          rw [HT2.out] at c5
          have C5 := Lib.hid c5
          clear c5 C4
          go_wp2_with fail
          refine (C5.out).mono ?_
          rintro e w9 ⟨rfl, hw9⟩
          have bw9 := bB.trans (hw9.mono (by omega))
          have HT' := Lib.hid (HT.out.keep hw9)
          have HP1' := Lib.hid (HP1.out.keep hw9)
          have HP2' := Lib.hid (HP2.out.keep hw9)
          have zw9 := hw9.size
          clear hw9 HT HP1 HP2 bB pa pb pc pd qa qb qc qd
          have HT := HT'
          have HP1 := HP1'
          have HP2 := HP2'
          have bB := bw9
          clear HT' HP1' HP2' bw9
          obtain ⟨pa, pb, pc, pd, -⟩ := id HP1.out
          obtain ⟨qa, qb, qc, qd, -⟩ := id HP2.out
          have c6 := trie_get HT.out q
          have C6 := Lib.hid c6
          clear c6 C5
          have c7 := fun (W : World) (h : Trie W t Sw8 (putQ p v (putQ p v L)) (putM p v (putQ p v L) (putM p v L M))) => trie_len h
          cases hg : G1.isSome
          · have hl2 : ((putQ p v (putQ p v L)).length : Int) = (L.length : Int) + 1 := by rw [HT1.out, hg]; simp
            simp only [hl2] at c7
            have C7 := Lib.hid c7
            have HG := Lib.hid hg
            clear c7 hl2
            by_cases hqp : q = p
            · have tq : pfB (u q.a.hi) (u q.a.lo) q.a.v6 q.n (u p.a.hi) (u p.a.lo) p.a.v6 p.n = true := (pfEq_iff q p).2 hqp
              have HQP := Lib.hid hqp
              clear hqp
              go_wp2_with fail
              refine (C6.out).mono ?_
              rintro e w10 ⟨rfl, hw10⟩
              have bw10 := bB.trans (hw10.mono (by omega))
              have HT' := Lib.hid (HT.out.keep hw10)
              have HP1' := Lib.hid (HP1.out.keep hw10)
              have HP2' := Lib.hid (HP2.out.keep hw10)
              have zw10 := hw10.size
              clear hw10 HT HP1 HP2 bB pa pb pc pd qa qb qc qd
              have HT := HT'
              have HP1 := HP1'
              have HP2 := HP2'
              have bB := bw10
              clear HT' HP1' HP2' bw10
              obtain ⟨pa, pb, pc, pd, -⟩ := id HP1.out
              obtain ⟨qa, qb, qc, qd, -⟩ := id HP2.out
              go_wp2_with fail
              refine (C7.out _ HT.out).mono ?_
              rintro e w11 ⟨rfl, rfl⟩
              go_wp2
              go_ret
              exact ⟨rfl, bB⟩
            · have tq : pfB (u q.a.hi) (u q.a.lo) q.a.v6 q.n (u p.a.hi) (u p.a.lo) p.a.v6 p.n = false := by
                cases h : pfB (u q.a.hi) (u q.a.lo) q.a.v6 q.n (u p.a.hi) (u p.a.lo) p.a.v6 p.n
                · rfl
                · exact absurd ((pfEq_iff q p).1 h) hqp
              have c8 := C6.out
              rw [HT3.out hqp] at c8
              have C8 := Lib.hid c8
              have HQP := Lib.hid hqp
              clear hqp c8
              go_wp2_with fail
              refine (C8.out).mono ?_
              rintro e w10 ⟨rfl, hw10⟩
              have bw10 := bB.trans (hw10.mono (by omega))
              have HT' := Lib.hid (HT.out.keep hw10)
              have HP1' := Lib.hid (HP1.out.keep hw10)
              have HP2' := Lib.hid (HP2.out.keep hw10)
              have zw10 := hw10.size
              clear hw10 HT HP1 HP2 bB pa pb pc pd qa qb qc qd
              have HT := HT'
              have HP1 := HP1'
              have HP2 := HP2'
              have bB := bw10
              clear HT' HP1' HP2' bw10
              obtain ⟨pa, pb, pc, pd, -⟩ := id HP1.out
              obtain ⟨qa, qb, qc, qd, -⟩ := id HP2.out
              go_wp2_with fail
              refine (C7.out _ HT.out).mono ?_
              rintro e w11 ⟨rfl, rfl⟩
              go_wp2
              go_ret
              exact ⟨rfl, bB⟩
          · have hl2 : ((putQ p v (putQ p v L)).length : Int) = (L.length : Int) := by rw [HT1.out, hg]; simp
            simp only [hl2] at c7
            have C7 := Lib.hid c7
            have HG := Lib.hid hg
            clear c7 hl2
            by_cases hqp : q = p
            · have tq : pfB (u q.a.hi) (u q.a.lo) q.a.v6 q.n (u p.a.hi) (u p.a.lo) p.a.v6 p.n = true := (pfEq_iff q p).2 hqp
              have HQP := Lib.hid hqp
              clear hqp
              go_wp2_with fail
              refine (C6.out).mono ?_
              rintro e w10 ⟨rfl, hw10⟩
              have bw10 := bB.trans (hw10.mono (by omega))
              have HT' := Lib.hid (HT.out.keep hw10)
              have HP1' := Lib.hid (HP1.out.keep hw10)
              have HP2' := Lib.hid (HP2.out.keep hw10)
              have zw10 := hw10.size
              clear hw10 HT HP1 HP2 bB pa pb pc pd qa qb qc qd
              have HT := HT'
              have HP1 := HP1'
              have HP2 := HP2'
              have bB := bw10
              clear HT' HP1' HP2' bw10
              obtain ⟨pa, pb, pc, pd, -⟩ := id HP1.out
              obtain ⟨qa, qb, qc, qd, -⟩ := id HP2.out
              go_wp2_with fail
              refine (C7.out _ HT.out).mono ?_
              rintro e w11 ⟨rfl, rfl⟩
              go_wp2
              go_ret
              exact ⟨rfl, bB⟩
            · have tq : pfB (u q.a.hi) (u q.a.lo) q.a.v6 q.n (u p.a.hi) (u p.a.lo) p.a.v6 p.n = false := by
                cases h : pfB (u q.a.hi) (u q.a.lo) q.a.v6 q.n (u p.a.hi) (u p.a.lo) p.a.v6 p.n
                · rfl
                · exact absurd ((pfEq_iff q p).1 h) hqp
              have c8 := C6.out
              rw [HT3.out hqp] at c8
              have C8 := Lib.hid c8
              have HQP := Lib.hid hqp
              clear hqp c8
              go_wp2_with fail
              refine (C8.out).mono ?_
              rintro e w10 ⟨rfl, hw10⟩
              have bw10 := bB.trans (hw10.mono (by omega))
              have HT' := Lib.hid (HT.out.keep hw10)
              have HP1' := Lib.hid (HP1.out.keep hw10)
              have HP2' := Lib.hid (HP2.out.keep hw10)
              have zw10 := hw10.size
              clear hw10 HT HP1 HP2 bB pa pb pc pd qa qb qc qd
              have HT := HT'
              have HP1 := HP1'
              have HP2 := HP2'
              have bB := bw10
              clear HT' HP1' HP2' bw10
              obtain ⟨pa, pb, pc, pd, -⟩ := id HP1.out
              obtain ⟨qa, qb, qc, qd, -⟩ := id HP2.out
              go_wp2_with fail
              refine (C7.out _ HT.out).mono ?_
              rintro e w11 ⟨rfl, rfl⟩
              go_wp2
              go_ret
              exact ⟨rfl, bB⟩

end Go.Proofs.Ytnmafhfjimagnaa

namespace Go.Proofs.Ytnmafhfjimagnaa
open Go.RowKit
set_option maxRecDepth 100000

/-- Pairs laid behind pairs. -/
theorem pairs_append (W : World) (base base' : Nat) (v v2 : Value) (a b : List Pr) (ty : TypeId) (hown : W.ownsRow base 56 5 v a.length (prv a)) (h2 : W.ownsRow base' 56 5 v2 b.length (prv b)) (hb : a.length + b.length ≤ 1000000000) (hbase : base ≤ W.heap.size) :
    ∃ v' w', (Builtin.append_ #[44, 44] ty #[v, v2]).run Try.prog W = .ok v' w' ∧ w'.ownsRow base 56 5 v' (a ++ b).length (prv (a ++ b)) ∧ W.grownBy w' v.ownBlock := by
  obtain ⟨i0, hi0, hz0, hz1, hz2⟩ := info_parts info_pr
  rcases h2.2 with ⟨rfl, hn⟩ | ⟨g, cap, cur, rfl, _, hg, hnc, hm, hs, ht⟩
  · have e : b = [] := List.eq_nil_of_length_eq_zero hn
    subst e
    refine ⟨v, W, ?_, by simpa using hown, World.grownBy.refl W _⟩
    rcases hown.2 with ⟨rfl, h0⟩ | ⟨g, cap, cur, rfl, _, _, hnc, _⟩
    · simp [Builtin.append_, run_underlying Try.underlying44, sizeOf, typeInfo, hi0, Builtin.lenOf, Builtin.firstCells]
    · simp [Builtin.append_, run_underlying Try.underlying44, sizeOf, typeInfo, hi0, Builtin.lenOf, Builtin.firstCells, hnc, storeCells]
  · obtain ⟨v', w', e1, e2, e3, _, _⟩ := run_append_own_at (P := Try.prog) W base 44 ty 56 i0 _ 5 40 Try.underlying44 hi0 hz0 hz1 hz2 rfl (by omega) v a.length _ hown ⟨g, 0, none⟩ b.length cap (prv b) (prv_len b) (h2.cells (g := g) rfl) (by
      intro u hu
      unfold prv at hu
      obtain ⟨x, _, hx⟩ := List.mem_flatMap.1 hu
      exact pr5_cell x u hx) (by simp only [maxLen]; omega) (by omega) hbase
    exact ⟨v', w', e1, by rw [prv_append, List.length_append]; exact e2, e3⟩
section
variable {ops : Array Oper} {o : Oper} {a : Act} {w : World} {Q : Exit → Act → World → Prop}
theorem wpList_pairs {rest : List Oper} (hgd : o.guard = none) (s x : Operand) (ho : o.op = .call { callee := .builtin .append, args := #[s, x], argTypes := #[44, 44] }) (base base' : Nat) (v v2 : Value) (l m : List Pr) (hs : a.eval s = v) (hx : a.eval x = v2) (hown : w.ownsRow base 56 5 v l.length (prv l)) (h2 : w.ownsRow base' 56 5 v2 m.length (prv m))
    (hb : l.length + m.length ≤ 1000000000) (hbase : base ≤ w.heap.size)
    (h : ∀ v' w', w'.ownsRow base 56 5 v' (l ++ m).length (prv (l ++ m)) → Below base w w' → wpList Try.prog ops Q rest (a.put o.dst v') w') : wpList Try.prog ops Q (o :: rest) a w := by
  refine wpList_plain hgd fun _ hK => ?_
  obtain ⟨v', w', e1, e2, e3⟩ := pairs_append w base base' v v2 l m o.type hown h2 hb hbase
  unfold Oper.wp execOp
  simp only [ho, resolve, invoke, builtin, Sem.run_bind, Sem.run_pure, Result.andThen_ok, List.map_toArray, List.map_cons, List.map_nil, hs, hx, e1]
  exact hK _ _ (h v' w' e2 ((Below.refl base w).grown e3 hbase (own_ge hown)))
end
def root4 : Pf := ⟨⟨0#64, 0#64, false⟩, 0⟩
def root6 : Pf := ⟨⟨0#64, 0#64, true⟩, 0⟩
theorem root_sane : psane root4 = true ∧ psane root6 = true := by decide +kernel
theorem cov_root {p : Pf} (hp : psane p = true) : pcov root4 p = !p.a.v6 ∧ pcov root6 p = p.a.v6 := by
  have h0 := (psane_bd hp).1
  have key : ∀ r : Pf, psane r = true → r.n = 0 → (pcov r p = true ↔ r.a.v6 = p.a.v6) := by
    intro r hr hn
    rw [pcov_iff]
    constructor
    · exact fun h => h.2.2.2.1
    · intro h
      refine ⟨hr, hp, by omega, h, fun j hj => ?_⟩
      rw [hn] at hj
      rw [D_ge _ _ (by omega), D_ge _ _ (by omega)]
  have k4 := key root4 root_sane.1 rfl
  have k6 := key root6 root_sane.2 rfl
  cases hv : p.a.v6
  · rw [hv] at k4 k6
    refine ⟨k4.2 rfl, ?_⟩
    cases hc : pcov root6 p
    · rfl
    · exact absurd (k6.1 hc) (by simp [root6])
  · rw [hv] at k4 k6
    refine ⟨?_, k6.2 rfl⟩
    cases hc : pcov root4 p
    · rfl
    · exact absurd (k4.1 hc) (by simp [root4])
/-- Those of the fourth version, then those of the sixth, are all. -/
theorem all_eq {L : List Pr} (h : Srt L) : (L.filter fun x => pcov root4 x.p) ++ (L.filter fun x => pcov root6 x.p) = L := by
  refine srt_ext ⟨fun x hx => ?_, ?_⟩ h (fun x => ?_)
  · rcases List.mem_append.1 hx with hx | hx
    · exact h.1 x (List.mem_filter.1 hx).1
    · exact h.1 x (List.mem_filter.1 hx).1
  · rw [List.pairwise_append]
    refine ⟨(filter_srt h _).2, (filter_srt h _).2, fun x hx y hy => ?_⟩
    obtain ⟨x1, x2⟩ := List.mem_filter.1 hx
    obtain ⟨y1, y2⟩ := List.mem_filter.1 hy
    have e1 := (cov_root (h.1 x x1)).1
    have e2 := (cov_root (h.1 y y1)).2
    rw [x2] at e1
    rw [y2] at e2
    have v1 : x.p.a.v6 = false := by simpa using e1.symm
    have := cmp_kind x.p.a y.p.a (by rw [v1, ← e2]; simp)
    rw [← e2] at this
    unfold pcmp
    rw [this]
    simp
  · rw [List.mem_append, List.mem_filter, List.mem_filter]
    constructor
    · rintro (⟨a, _⟩ | ⟨a, _⟩) <;> exact a
    · intro hx
      have := cov_root (h.1 x hx)
      rw [this.1, this.2]
      cases x.p.a.v6
      · exact .inl ⟨hx, rfl⟩
      · exact .inr ⟨hx, rfl⟩
theorem own_fresh {w w' : World} {b1 : Nat} {e : TypeId} {size n : Nat} {v : Value} {xs : List Value} (h : w.ownsRow b1 e size v n xs) (hb : Below w.heap.size w w') : w'.ownsRow b1 e size v n xs := own_block h (fun b _ hl => hb.block b hl)
set_option maxHeartbeats 1000000 in
theorem all_any {w : World} {t : Nat} {S : Nat → Prop} {L : List Pr} {most : Nat} (h : Trie w t S L most) : Calls Try.prog 18 #[.pointer (some ⟨t, 0, none⟩)] w (ListPost w L) := by
  have hln : L.length ≤ 1000000000 := by
    obtain ⟨T, -, hr, hl, hm⟩ := h
    have := rep_len hr
    omega
  have hlf := fun f : Pr → Bool => List.length_filter_le f L
  have HT := Lib.hid h
  have HE := Lib.hid (all_eq h.srt)
  have HLF := Lib.hid hlf
  have HL := Lib.hid hln
  have c4 : ∀ W, Trie W t S L most → Calls Try.prog 25 #[.pointer (some ⟨t, 0, none⟩), .agg #[.int .u64 0, .int .u64 0, .bool false, .int .i64 0]] W (ListPost W (L.filter fun x => pcov root4 x.p)) := fun W h => trie_under h root4
  have c6 : ∀ W, Trie W t S L most → Calls Try.prog 25 #[.pointer (some ⟨t, 0, none⟩), .agg #[.int .u64 0, .int .u64 0, .bool true, .int .i64 0]] W (ListPost W (L.filter fun x => pcov root6 x.p)) := fun W h => trie_under h root6
  have C4 := Lib.hid c4
  have C6 := Lib.hid c6
  obtain ⟨L4, hL4⟩ : ∃ l, (L.filter fun x => pcov root4 x.p) = l := ⟨_, rfl⟩
  obtain ⟨L6, hL6⟩ : ∃ l, (L.filter fun x => pcov root6 x.p) = l := ⟨_, rfl⟩
  have k4 := HLF.out fun x => pcov root4 x.p
  have k6 := HLF.out fun x => pcov root6 x.p
  rw [hL4] at k4 C4 HE
  rw [hL6] at k6 C6 HE
  have hL := HL.out
  have hsum : L4.length + L6.length = L.length := by rw [← HE.out, List.length_append]
  have k7 : L4.length + L6.length ≤ 1000000000 := by omega
  have HS := Lib.hid hsum
  clear h hlf hln c4 c6 hL4 hL6 HLF hsum
  go_enter Try.func18, Try.ntmps18
  go_wp2_with fail
  refine (C4.out _ (HT.out.keep (by go_grown))).mono ?_
  rintro e w1 ⟨v1, rfl, ho1, hb1⟩
  have b1 : Below w.heap.size w w1 := below_of (by go_grown) hb1
  have he : w1.ownsRow w.heap.size 56 5 (.slice (some ⟨w.heap.size, 0, none⟩) 0 0) ([] : List Pr).length (prv []) := own_block ⟨rfl, .inr ⟨w.heap.size, 0, #[], rfl, Nat.le_refl _, heap_alloc_new w _, Nat.le_refl _, by simp [maxLen], rfl, rfl⟩⟩ (fun b _ hl => hb1.block b hl)
  have z1 := hb1.size
  have z1' : w.heap.size ≤ w1.heap.size := b1.size
  have HO1 := Lib.hid ho1
  have HE1 := Lib.hid he
  obtain ⟨A1, cc1, rfl, -⟩ := own_val ho1
  clear ho1 he hb1
  go_wp2_with (
    at_builtin
    refine wpList_pairs rfl (.tmp 4) (.tmp 7) rfl w.heap.size _ _ _ [] L4 (by rfl) (by rfl) HE1.out HO1.out (by simp; omega) z1' ?_
    intro v2 w2 ho2 hb2
    have HO2 := Lib.hid ho2
    have b2 := b1.trans hb2
    obtain ⟨A2, cc2, rfl, -⟩ := own_val ho2
    clear ho2 hb2
    )
  refine (C6.out _ (HT.out.keep b2)).mono ?_
  rintro e w3 ⟨v3, rfl, ho3, hb3⟩
  have b3 := b2.trans (hb3.mono b2.size)
  have HO3 := Lib.hid ho3
  have HO4 := Lib.hid (own_fresh HO2.out hb3)
  obtain ⟨A3, cc3, rfl, -⟩ := own_val ho3
  have z3 := b3.size
  have k8 : ([] ++ L4 : List Pr).length + L6.length ≤ 1000000000 := by simpa using k7
  clear ho3 hb3 HO1 HE1 HO2
  go_wp2_with (
    at_builtin
    refine wpList_pairs rfl (.tmp 9) (.tmp 13) rfl w.heap.size _ _ _ ([] ++ L4) L6 (by rfl) (by rfl) HO4.out HO3.out k8 z3 ?_
    intro v5 w5 ho5 hb5
    have HO5 := Lib.hid ho5
    have b5 := b3.trans hb5
    obtain ⟨A5, cc5, rfl, -⟩ := own_val ho5
    clear ho5 hb5
    )
  go_ret
  refine ⟨.slice A5 L.length cc5, ?_, ?_, b5⟩
  · rw [← HS.out]
    rfl
  have e := HO5.out
  rw [List.nil_append, HE.out] at e
  exact e

end Go.Proofs.Ytnmafhfjimagnaa

namespace Go.Proofs.Ytnmafhfjimagnaa
open Go.RowKit
set_option maxRecDepth 100000

def sumN : List Pr → Int
  | [] => 2
  | x :: r => sumN r + x.p.n
def maxN : List Pr → Int
  | [] => 0
  | x :: r => max (maxN r) x.p.n
/-- Of the first k. -/
def sumK (l : List Pr) (k : Nat) : Int := sumN (l.take k).reverse
def maxK (l : List Pr) (k : Nat) : Int := maxN (l.take k).reverse
theorem sumK_succ (l : List Pr) (k : Nat) (h : k < l.length) : sumK l (k + 1) = sumK l k + l[k].p.n ∧ maxK l (k + 1) = max (maxK l k) l[k].p.n := by
  unfold sumK maxK
  rw [List.take_succ_eq_append_getElem h, List.reverse_append]
  exact ⟨rfl, rfl⟩
theorem sumN_bd {r : List Pr} (h : ∀ x ∈ r, psane x.p = true) : 2 ≤ sumN r ∧ sumN r ≤ 2 + 128 * r.length ∧ 0 ≤ maxN r ∧ maxN r ≤ 128 := by
  induction r with
  | nil => simp [sumN, maxN]
  | cons x r ih =>
    have := ih (fun y hy => h y (List.mem_cons_of_mem _ hy))
    have hb := psane_bd (h x (List.mem_cons_self ..))
    have hw := (wid_bd x.p.a.v6).2
    simp only [sumN, maxN, List.length_cons]
    omega
theorem nodesR_bd {r : List Pr} (h : ∀ x ∈ r, psane x.p = true) : nodesR r ≤ sumN r ∧ 2 + maxN r ≤ nodesR r ∧ ∀ x ∈ r, 2 + x.p.n ≤ nodesR r := by
  induction r with
  | nil => simp [nodesR, sumN, maxN]
  | cons x r ih =>
    have hr : ∀ y ∈ r, psane y.p = true := fun y hy => h y (List.mem_cons_of_mem _ hy)
    have hx := h x (List.mem_cons_self ..)
    obtain ⟨i1, i2, i3⟩ := ih hr
    have hb := comm_bd hr hx
    have hc : 2 + comm r x.p ≤ nodesR r := by
      cases r with
      | nil => simp [comm, nodesR]
      | cons a r =>
        have := i3 a (List.mem_cons_self ..)
        have : comm (a :: r) x.p ≤ a.p.n := by simp only [comm]; omega
        omega
    simp only [nodesR, sumN, maxN]
    refine ⟨by omega, by omega, fun y hy => ?_⟩
    rcases List.mem_cons.1 hy with rfl | hy
    · omega
    · have := i3 y hy
      omega
theorem nodes_bd {L : List Pr} (h : Srt L) : nodesL L ≤ sumK L L.length ∧ 2 + maxK L L.length ≤ nodesL L := by
  have := nodesR_bd (r := L.reverse) (fun x hx => h.1 x (List.mem_reverse.1 hx))
  unfold nodesL sumK maxK
  rw [List.take_length]
  exact ⟨this.1, this.2.1⟩
theorem sumK_bd {L : List Pr} (h : Srt L) (k : Nat) : 2 ≤ sumK L k ∧ sumK L k ≤ 2 + 128 * L.length ∧ 0 ≤ maxK L k ∧ maxK L k ≤ 128 := by
  have := sumN_bd (r := (L.take k).reverse) (fun x hx => h.1 x (List.mem_of_mem_take (List.mem_reverse.1 hx)))
  have hl : (L.take k).reverse.length ≤ L.length := by simp; omega
  unfold sumK maxK
  omega
theorem Trie.most {w : World} {t : Nat} {S : Nat → Prop} {L : List Pr} {m : Nat} (h : Trie w t S L m) : nodesL L ≤ (m : Int) := by
  obtain ⟨T, -, hr, hl, -⟩ := h
  have := rep_fr hr
  omega
theorem Trie.len {w : World} {t : Nat} {S : Nat → Prop} {L : List Pr} {m : Nat} (h : Trie w t S L m) : L.length ≤ m := by
  obtain ⟨T, -, hr, hl, -⟩ := h
  have := rep_len hr
  omega
/-- A pair of a row. -/
theorem pair_cell {w : World} {base n : Nat} {v : Value} {l : List Pr} (h : w.ownsRow base 56 5 v n (prv l)) (hn : n = l.length) {k : Nat} (hk : k < l.length) : ∃ g c, v = .slice (some ⟨g, 0, none⟩) n c ∧ base ≤ g ∧ g < w.heap.size ∧ ∀ j, j < 5 → w.cell? ⟨g, k * 5 + j, none⟩ = (pr5 l[k])[j]? := by
  obtain ⟨g, cap, rfl, hb, hlt⟩ := h.form (by omega)
  refine ⟨g, cap, rfl, hb, hlt, fun j hj => ?_⟩
  rw [h.cellAt (k * 5 + j) (by omega), prv_at l k hk j hj]
/-- At the head of a round of the sums. -/
def SumRel (L : List Pr) (wr : World) (s m k : Value) (w' : World) : Prop := ∃ i : Nat, i ≤ L.length ∧ k = .int .i64 i ∧ s = .int .i64 (sumK L i) ∧ m = .int .i64 (maxK L i) ∧ w' = wr

set_option maxHeartbeats 4000000 in
theorem bound_law (A : Option Addr) (cap : Nat) (ls : List Ac) (w : World) (hr : RdA w A ls) :
    Calls Try.prog 6 #[.slice A ls.length cap] w fun e w' => e = .returned (.bool true) ∧ Below w.heap.size w w' := by
  have HR := Lib.hid hr
  clear hr
  by_cases hlen : 60 < ls.length
  · have t0 : decide ((60 : Int) < (ls.length : Int)) = true := by simp; omega
    go_enter Try.func6, Try.ntmps6
    go_wp2_with fail
    refine (awake5_any _).mono ?_
    rintro e w1 ⟨rfl, hw1⟩
    go_wp2
    go_ret
    exact ⟨rfl, hw1⟩
  · have t0 : decide ((60 : Int) < (ls.length : Int)) = false := by simp; omega
    go_enter Try.func6, Try.ntmps6
    go_wp2_with fail
    refine (awake5_any _).mono ?_
    rintro e w1 ⟨rfl, hw1⟩
    have z1 := hw1.size
    go_wp2_with fail
    refine (trie_new _).mono ?_
    rintro e w3 ⟨t, S3, rfl, hT3, hb3, hS3⟩
    have b3 : Below w.heap.size w w3 := hw1.trans (hb3.mono z1)
    have n3 : ∀ b, S3 b → w.heap.size ≤ b := fun b hb => by have := hS3 b hb; omega
    have z3 := b3.size
    have HT3 := Lib.hid hT3
    have HN3 := Lib.hid n3
    clear hT3 n3 hS3 hb3 hw1
    go_wp2_with fail
    go_loopw [5] (fun n wr => PlayRel w w.heap.size t ls (fun _ => True) n wr) (fun n _ => ls.length - (intOf n).toNat)
    case atStart => exact ⟨0, S3, Nat.zero_le _, rfl, HT3.out, Nat.le_refl _, HN3.out, b3, z3, trivial⟩
    case round =>
      obtain ⟨k, S, hk, rfl, hT, hm, hN, hB, hz, -⟩ := hrel
      have HT := Lib.hid hT
      have HN := Lib.hid hN
      clear hT hN HT3 HN3
      by_cases hlt : k < ls.length
      · obtain ⟨g, off, rfl, hg, hc⟩ := HR.out (by intro e; rw [e] at hlt; cases hlt)
        obtain ⟨c0, c1, c2, c3, c4, c5⟩ := hc k hlt
        have d0 := (hB.cell (p := ⟨g, off + k * 6, none⟩) hg).trans c0
        have d1 := (hB.cell (p := ⟨g, off + k * 6 + 1, none⟩) hg).trans c1
        have d2 := (hB.cell (p := ⟨g, off + k * 6 + 2, none⟩) hg).trans c2
        have d3 := (hB.cell (p := ⟨g, off + k * 6 + 3, none⟩) hg).trans c3
        have d4 := (hB.cell (p := ⟨g, off + k * 6 + 4, none⟩) hg).trans c4
        have d5 := (hB.cell (p := ⟨g, off + k * 6 + 5, none⟩) hg).trans c5
        clear c0 c1 c2 c3 c4 c5 hc
        obtain ⟨x, hx⟩ : ∃ x, ls[k] = x := ⟨_, rfl⟩
        rw [hx] at d0 d1 d2 d3 d4 d5
        have HXX := Lib.hid hx
        clear hx
        go_wp2_with fail
        refine (do_any HT.out (by omega) x).mono ?_
        rintro e w6 ⟨⟨rfl, S6, g1, g2, g3⟩, g4⟩
        rw [← HXX.out] at g1 g4
        obtain ⟨r1, r2, r3, r4, r5, r6⟩ := play_next hlt HN.out hz (Nat.le_refl _) hB g1 g2 g3 g4 hm
        have hs := r1.srt
        have n1 := nodes_bd hs
        have n2 := r1.most
        have n3 := r1.len
        have n4 := sumK_bd hs
        have R1 := Lib.hid r1
        have R3 := Lib.hid r3
        have N4 := Lib.hid n4
        have hL20 : (playK ls (k + 1)).1.length ≤ 20000 := by omega
        have hQ : (playK ls (k + 1)).2 ≤ 20000 := by omega
        clear g1 g2 g3 g4 r1 r3 r6 d0 d1 d2 d3 d4 d5 n4 hs
        obtain ⟨L, hL⟩ : ∃ L, (playK ls (k + 1)).1 = L := ⟨_, rfl⟩
        obtain ⟨M, hM⟩ : ∃ M, (playK ls (k + 1)).2 = M := ⟨_, rfl⟩
        have HR1 := R1
        rw [hL, hM] at HR1
        rw [hL] at n1 n2 n3 N4 hL20
        rw [hM] at n2 n3 hQ
        have HL := Lib.hid hL
        have HM := Lib.hid hM
        clear hL hM
        go_wp2_with fail
        refine (all_any HR1.out).mono ?_
        rintro e w7 ⟨v7, rfl, ho7, hb7⟩
        have z7 := hb7.size
        have HT7 := Lib.hid (HR1.out.keep hb7)
        have R17 := Lib.hid (R1.out.keep hb7)
        have b7 := r4.trans (hb7.mono (by omega))
        have HO7 := Lib.hid ho7
        obtain ⟨A7, c7, rfl, -⟩ := own_val ho7
        clear ho7 hb7
        go_wp2_with fail
        go_loopw [6, 7, 9] (fun s m k w' => SumRel L w7 s m k w') (fun _ _ k _ => L.length - (intOf k).toNat)
        case atStart => exact ⟨0, Nat.zero_le _, rfl, rfl, rfl, rfl⟩
        case round =>
          obtain ⟨i, hi, rfl, rfl, rfl, hww⟩ := hrel
          have hw9 := hww.symm
          subst hw9
          by_cases hil : i < L.length
          · obtain ⟨g8, c8, e8, -, -, hcc⟩ := pair_cell HO7.out rfl hil
            simp only [Value.slice.injEq, true_and] at e8
            obtain ⟨rfl, rfl⟩ := e8
            have q3 : w7.cell? ⟨g8, i * 5 + 3, none⟩ = some (.int .i64 L[i].p.n) := hcc 3 (by omega)
            obtain ⟨s1, s2⟩ := sumK_succ L i hil
            have s3 := N4.out i
            have s4 := N4.out (i + 1)
            have S1 := Lib.hid s1
            have S2 := Lib.hid s2
            have t1 : decide (i < L.length) = true := by simp; omega
            rw [s1] at s4
            clear hcc s1 s2
            generalize L[i].p.n = y at q3 S1 S2 s4
            go_wp2
            refine ⟨⟨i + 1, by omega, by go_num, by rw [S1.out], ?_, rfl⟩, by simp [intOf]; omega⟩
            rw [S2.out]
            have e9 : (if maxK L i < y then y else maxK L i) = max (maxK L i) y := by split <;> omega
            rw [e9]
          · have hil' : i = L.length := by omega
            have t1 : decide (i < L.length) = false := by simp; omega
            obtain ⟨u1, u2⟩ := n1
            rw [← hil'] at u1 u2
            have t2 : decide (sumK L i < nodesL L) = false := by simp; omega
            have t3 : decide (nodesL L < 2 + maxK L i) = false := by simp; omega
            have t4 : decide ((M : Int) < nodesL L) = false := by simp; omega
            have s3 := N4.out i
            have HI := Lib.hid hil'
            clear hil' u1 u2 n2
            go_wp2_with fail
            refine (trie_nodes HT7.out).mono ?_
            rintro e w8 ⟨rfl, hb8⟩
            have b8 := b7.trans (hb8.mono (by omega))
            have HT8 := Lib.hid (HT7.out.keep hb8)
            have R18 := Lib.hid (R17.out.keep hb8)
            have z8 := hb8.size
            clear hb8
            go_wp2_with fail
            refine (trie_nodes HT8.out).mono ?_
            rintro e w9 ⟨rfl, hb9⟩
            have b9 := b8.trans (hb9.mono (by omega))
            have HT9 := Lib.hid (HT8.out.keep hb9)
            have R19 := Lib.hid (R18.out.keep hb9)
            have z9 := hb9.size
            clear hb9
            go_wp2_with fail
            refine (trie_slots HT9.out).mono ?_
            rintro e w10 ⟨rfl, rfl⟩
            go_wp2_with fail
            refine (trie_nodes HT9.out).mono ?_
            rintro e w11 ⟨rfl, hb11⟩
            have b11 := b9.trans (hb11.mono (by omega))
            have HT11 := Lib.hid (HT9.out.keep hb11)
            have R11 := Lib.hid (R19.out.keep hb11)
            have z11 := hb11.size
            clear hb11
            go_wp2_with fail
            refine (trie_len HT11.out).mono ?_
            rintro e w12 ⟨rfl, rfl⟩
            go_wp2
            go_roundw
            case rel => exact ⟨k + 1, S6, by omega, by go_num, R11.out, r2, R3.out, b11, by omega, trivial⟩
            case measure => simp [intOf]; omega
      · go_wp2
        go_ret
        exact ⟨rfl, hB⟩

end Go.Proofs.Ytnmafhfjimagnaa

namespace Go.Proofs.Ytnmafhfjimagnaa
set_option maxRecDepth 100000
open Go.ChangeShapes Go.WideShapes Go.ChangeAt Go.RowKit Go.Joins Go.Deep

theorem add_plain' (g off j : Nat) : (⟨g, off, none⟩ : Addr).add j = ⟨g, off + j, none⟩ := by unfold Addr.add; split <;> simp_all
def nilAc : Ac := ⟨false, nilP, 0⟩
def pf4 (p : Pf) : List Value := [.int .u64 (u p.a.hi), .int .u64 (u p.a.lo), .bool p.a.v6, .int .i64 p.n]
/-- Prefixes that lie in memory, as a slice says. -/
def RdP (w : World) (A : Option Addr) (ls : List Pf) : Prop :=
  ls ≠ [] → ∃ g off, A = some ⟨g, off, none⟩ ∧ g < w.heap.size ∧ ∀ i, (h : i < ls.length) → w.cell? ⟨g, off + i * 4, none⟩ = some (.int .u64 (u ls[i].a.hi)) ∧ w.cell? ⟨g, off + i * 4 + 1, none⟩ = some (.int .u64 (u ls[i].a.lo)) ∧ w.cell? ⟨g, off + i * 4 + 2, none⟩ = some (.bool ls[i].a.v6) ∧ w.cell? ⟨g, off + i * 4 + 3, none⟩ = some (.int .i64 ls[i].n)
theorem ac_cells {H : Type} {enc : TypeId × Value → H} {W : World} {base n : Nat} {spare : Nat → Bool} {held : Bool} {cs : List Value} {x : DataW H × List MemPlace}
    (hl : cs.length = 6) (h : DataW.trod enc Try.prog W base spare held n 38 cs = some x) : ∃ r : Ac, cs = ac6 r := by
  match cs, hl with
  | [c, c0, c1, c2, c3, c4], _ =>
  obtain ⟨y, y0, y1, n, hx, _, h, h0, h1⟩ := trod_struct3 Try.underlying38 h
  have k0 : Try.prog.cellsOf 27 = 4 := by kernel_rfl
  have k1 : Try.prog.cellsOf 3 = 1 := by kernel_rfl
  have k3 : Try.prog.cellsOf 4 = 1 := by kernel_rfl
  have g : DataW.trod enc Try.prog W base spare held n 4 [c] = some y := by simpa [k3] using h
  have g0 : DataW.trod enc Try.prog W base spare held n 27 [c0, c1, c2, c3] = some y0 := by simpa [k0, k3] using h0
  have g1 : DataW.trod enc Try.prog W base spare held n 3 [c4] = some y1 := by simpa [k0, k1, k3] using h1
  obtain ⟨y2, y3, n2, _, _, h2, h3⟩ := trod_struct2 Try.underlying27 g0
  have k4 : Try.prog.cellsOf 25 = 3 := by kernel_rfl
  have g2 : DataW.trod enc Try.prog W base spare held n2 25 [c0, c1, c2] = some y2 := by simpa [k4] using h2
  have g3 : DataW.trod enc Try.prog W base spare held n2 3 [c3] = some y3 := by simpa [k1] using h3
  obtain ⟨z0, z1, z2, m, hz, _, i0, i1, i2⟩ := trod_struct3 Try.underlying25 g2
  have k2 : Try.prog.cellsOf 23 = 1 := by kernel_rfl
  have j0 : DataW.trod enc Try.prog W base spare held m 23 [c0] = some z0 := by simpa [k2] using i0
  have j1 : DataW.trod enc Try.prog W base spare held m 23 [c1] = some z1 := by simpa [k2] using i1
  have j2 : DataW.trod enc Try.prog W base spare held m 4 [c2] = some z2 := by simpa [k3] using i2
  obtain ⟨x, e, _⟩ := DataW.trod_bool Try.underlying4 g
  obtain ⟨x0, e0, _, w0⟩ := DataW.trod_int Try.underlying23 j0
  obtain ⟨x1, e1, _, w1⟩ := DataW.trod_int Try.underlying23 j1
  obtain ⟨x2, e2, _⟩ := DataW.trod_bool Try.underlying4 j2
  obtain ⟨x3, e3, _, w3⟩ := DataW.trod_int Try.underlying3 g3
  obtain ⟨x4, e4, _, w4⟩ := DataW.trod_int Try.underlying3 g1
  obtain ⟨lo0, hi0⟩ := bounds_u64 w0
  obtain ⟨lo1, hi1⟩ := bounds_u64 w1
  obtain ⟨a0, rfl⟩ := u_of x0 lo0 (by omega)
  obtain ⟨a1, rfl⟩ := u_of x1 lo1 (by omega)
  simp at e e0 e1 e2 e3 e4
  subst e e0 e1 e2 e3 e4
  exact ⟨⟨x, ⟨⟨a0, a1, x2⟩, x3⟩, x4⟩, rfl⟩
theorem open_acs {H : Type} {enc : TypeId × Value → H} {W : World} {base b0 : Nat} {spare : Nat → Bool} {held : Bool} {r : Reach} {v : Value} {d : DataW H} {p : List MemPlace}
    (hv : Value.okWide Try.prog W r b0 22 v) (h : DataW.Trod enc Try.prog W base spare held 22 v d p) (_ : ∀ b, spare b = true) :
    ∃ A c rs, v = .slice A (List.length rs) c ∧ RdA W A rs := by
  obtain ⟨A, len, cap, rfl⟩ := okWide_slice Try.underlying22 hv
  obtain ⟨fuel, hf⟩ := h
  have h5 : Try.prog.cellsOf 38 = 6 := by kernel_rfl
  rcases open_slice Try.underlying22 hf with ⟨hcs, _⟩ | ⟨a, l, c, m, n, D, Pl, hcs, _, hl, hm, hmm, _, hi⟩
  · simp [Value.cells] at hcs
    obtain ⟨rfl, rfl, rfl⟩ := hcs
    exact ⟨none, 0, [], rfl, fun h => absurd rfl h⟩
  · simp [Value.cells] at hcs
    obtain ⟨rfl, rfl, rfl⟩ := hcs
    have hlm : len ≤ m := by rw [hmm]; split <;> omega
    have key : ∀ i, i < len → ∃ r : Ac, ∀ j x, (ac6 r)[j]? = some x → W.cell? (a.add (i * 6 + j)) = some x := by
      intro i hlt
      obtain ⟨cs', hc, ht⟩ := hi i (by omega)
      rw [h5] at hc
      obtain ⟨_, hcl, hat⟩ := World.cells?_some hc
      obtain ⟨r, rfl⟩ := ac_cells hcl ht
      refine ⟨r, fun j x hx => ?_⟩
      have hj : j < 6 := by
        rcases Nat.lt_or_ge j 6 with h1 | h1
        · exact h1
        · rw [List.getElem?_eq_none (by simp [ac6]; omega)] at hx; cases hx
      rw [← Go.Deep.add_add, hat j hj, hx]
    have hch : ∃ f : Nat → Ac, ∀ i, i < len → ∀ j x, (ac6 (f i))[j]? = some x → W.cell? (a.add (i * 6 + j)) = some x :=
      ⟨fun i => if h : i < len then (key i h).choose else nilAc, fun i hlt j x hx => (key i hlt).choose_spec j x (by simpa [hlt] using hx)⟩
    obtain ⟨f, hf2⟩ := hch
    refine ⟨some a, cap, (List.range len).map f, by simp, fun hne => ?_⟩
    have hpos : 0 < len := by
      rcases Nat.eq_zero_or_pos len with h0 | h0
      · rw [h0] at hne; simp at hne
      · exact h0
    obtain ⟨g, off, spot⟩ := a
    have hspot : spot = none := by
      have := hf2 0 hpos 0 _ rfl
      rw [show 0 * 6 + 0 = 0 from rfl] at this
      simpa [Addr.add] using World.cell?_spot this
    subst hspot
    have hcell : ∀ i, i < len → ∀ j x, (ac6 (f i))[j]? = some x → W.cell? ⟨g, off + i * 6 + j, none⟩ = some x := fun i hlt j x hx => by
      have := hf2 i hlt j x hx
      rw [add_plain', ← Nat.add_assoc] at this
      exact this
    refine ⟨g, off, rfl, World.block_lt_of_cell? W ⟨g, off + 0 * 6 + 0, none⟩ (hcell 0 hpos 0 _ rfl), fun i hlt => ?_⟩
    have hlt' : i < len := by simpa using hlt
    have e : ((List.range len).map f)[i] = f i := by simp
    rw [e]
    exact ⟨hcell i hlt' 0 _ rfl, hcell i hlt' 1 _ rfl, hcell i hlt' 2 _ rfl, hcell i hlt' 3 _ rfl, hcell i hlt' 4 _ rfl, hcell i hlt' 5 _ rfl⟩
theorem pf_cells {H : Type} {enc : TypeId × Value → H} {W : World} {base n : Nat} {spare : Nat → Bool} {held : Bool} {cs : List Value} {x : DataW H × List MemPlace}
    (hl : cs.length = 4) (h : DataW.trod enc Try.prog W base spare held n 27 cs = some x) : ∃ r : Pf, cs = pf4 r := by
  match cs, hl with
  | [c0, c1, c2, c3], _ =>
  obtain ⟨y2, y3, n2, _, _, h2, h3⟩ := trod_struct2 Try.underlying27 h
  have k1 : Try.prog.cellsOf 3 = 1 := by kernel_rfl
  have k4 : Try.prog.cellsOf 25 = 3 := by kernel_rfl
  have g2 : DataW.trod enc Try.prog W base spare held n2 25 [c0, c1, c2] = some y2 := by simpa [k4] using h2
  have g3 : DataW.trod enc Try.prog W base spare held n2 3 [c3] = some y3 := by simpa [k1, k4] using h3
  obtain ⟨z0, z1, z2, m, hz, _, i0, i1, i2⟩ := trod_struct3 Try.underlying25 g2
  have k2 : Try.prog.cellsOf 23 = 1 := by kernel_rfl
  have k3 : Try.prog.cellsOf 4 = 1 := by kernel_rfl
  have j0 : DataW.trod enc Try.prog W base spare held m 23 [c0] = some z0 := by simpa [k2] using i0
  have j1 : DataW.trod enc Try.prog W base spare held m 23 [c1] = some z1 := by simpa [k2] using i1
  have j2 : DataW.trod enc Try.prog W base spare held m 4 [c2] = some z2 := by simpa [k3] using i2
  obtain ⟨x0, e0, _, w0⟩ := DataW.trod_int Try.underlying23 j0
  obtain ⟨x1, e1, _, w1⟩ := DataW.trod_int Try.underlying23 j1
  obtain ⟨x2, e2, _⟩ := DataW.trod_bool Try.underlying4 j2
  obtain ⟨x3, e3, _, w3⟩ := DataW.trod_int Try.underlying3 g3
  obtain ⟨lo0, hi0⟩ := bounds_u64 w0
  obtain ⟨lo1, hi1⟩ := bounds_u64 w1
  obtain ⟨a0, rfl⟩ := u_of x0 lo0 (by omega)
  obtain ⟨a1, rfl⟩ := u_of x1 lo1 (by omega)
  simp at e0 e1 e2 e3
  subst e0 e1 e2 e3
  exact ⟨⟨⟨a0, a1, x2⟩, x3⟩, rfl⟩
theorem open_pfs {H : Type} {enc : TypeId × Value → H} {W : World} {base b0 : Nat} {spare : Nat → Bool} {held : Bool} {r : Reach} {v : Value} {d : DataW H} {p : List MemPlace}
    (hv : Value.okWide Try.prog W r b0 64 v) (h : DataW.Trod enc Try.prog W base spare held 64 v d p) (_ : ∀ b, spare b = true) :
    ∃ A c rs, v = .slice A (List.length rs) c ∧ RdP W A rs := by
  obtain ⟨A, len, cap, rfl⟩ := okWide_slice Try.underlying64 hv
  obtain ⟨fuel, hf⟩ := h
  have h5 : Try.prog.cellsOf 27 = 4 := by kernel_rfl
  rcases open_slice Try.underlying64 hf with ⟨hcs, _⟩ | ⟨a, l, c, m, n, D, Pl, hcs, _, hl, hm, hmm, _, hi⟩
  · simp [Value.cells] at hcs
    obtain ⟨rfl, rfl, rfl⟩ := hcs
    exact ⟨none, 0, [], rfl, fun h => absurd rfl h⟩
  · simp [Value.cells] at hcs
    obtain ⟨rfl, rfl, rfl⟩ := hcs
    have hlm : len ≤ m := by rw [hmm]; split <;> omega
    have key : ∀ i, i < len → ∃ r : Pf, ∀ j x, (pf4 r)[j]? = some x → W.cell? (a.add (i * 4 + j)) = some x := by
      intro i hlt
      obtain ⟨cs', hc, ht⟩ := hi i (by omega)
      rw [h5] at hc
      obtain ⟨_, hcl, hat⟩ := World.cells?_some hc
      obtain ⟨r, rfl⟩ := pf_cells hcl ht
      refine ⟨r, fun j x hx => ?_⟩
      have hj : j < 4 := by
        rcases Nat.lt_or_ge j 4 with h1 | h1
        · exact h1
        · rw [List.getElem?_eq_none (by simp [pf4]; omega)] at hx; cases hx
      rw [← Go.Deep.add_add, hat j hj, hx]
    have hch : ∃ f : Nat → Pf, ∀ i, i < len → ∀ j x, (pf4 (f i))[j]? = some x → W.cell? (a.add (i * 4 + j)) = some x :=
      ⟨fun i => if h : i < len then (key i h).choose else nilP, fun i hlt j x hx => (key i hlt).choose_spec j x (by simpa [hlt] using hx)⟩
    obtain ⟨f, hf2⟩ := hch
    refine ⟨some a, cap, (List.range len).map f, by simp, fun hne => ?_⟩
    have hpos : 0 < len := by
      rcases Nat.eq_zero_or_pos len with h0 | h0
      · rw [h0] at hne; simp at hne
      · exact h0
    obtain ⟨g, off, spot⟩ := a
    have hspot : spot = none := by
      have := hf2 0 hpos 0 _ rfl
      rw [show 0 * 4 + 0 = 0 from rfl] at this
      simpa [Addr.add] using World.cell?_spot this
    subst hspot
    have hcell : ∀ i, i < len → ∀ j x, (pf4 (f i))[j]? = some x → W.cell? ⟨g, off + i * 4 + j, none⟩ = some x := fun i hlt j x hx => by
      have := hf2 i hlt j x hx
      rw [add_plain', ← Nat.add_assoc] at this
      exact this
    refine ⟨g, off, rfl, World.block_lt_of_cell? W ⟨g, off + 0 * 4 + 0, none⟩ (hcell 0 hpos 0 _ rfl), fun i hlt => ?_⟩
    have hlt' : i < len := by simpa using hlt
    have e : ((List.range len).map f)[i] = f i := by simp
    rw [e]
    exact ⟨hcell i hlt' 0 _ rfl, hcell i hlt' 1 _ rfl, hcell i hlt' 2 _ rfl, hcell i hlt' 3 _ rfl⟩

end Go.Proofs.Ytnmafhfjimagnaa

namespace Go.Proofs.Ytnmafhfjimagnaa
open Go.RowKit
set_option maxRecDepth 100000

/-- More prefixes, more nodes. -/
theorem nodes_mono {a b : List Pr} (ha : Srt a) (hb : Srt b) (h : ∀ x ∈ a, ∃ y ∈ b, y.p = x.p) : nodesL a ≤ nodesL b := by
  obtain ⟨ns, n1, n2, n3⟩ := canon a.reverse (by rw [List.reverse_reverse]; exact ha)
  obtain ⟨ms, m1, m2, m3⟩ := canon b.reverse (by rw [List.reverse_reverse]; exact hb)
  have := nodup_le n1 (m := ms) (fun q hq => by
    obtain ⟨h1, h2⟩ := (n2 q).1 hq
    refine (m2 q).2 ⟨h1, ?_⟩
    rcases h2 with h2 | ⟨x, hx, hc⟩
    · exact .inl h2
    · obtain ⟨y, hy, e⟩ := h x (List.mem_reverse.1 hx)
      exact .inr ⟨y, List.mem_reverse.2 hy, by rw [e]; exact hc⟩)
  unfold nodesL
  omega
/-- What is there behind the first k prefixes put, upon L. -/
def putsR : List Pf → List Pr × Nat → List Pr × Nat
  | [], s => s
  | p :: r, s => (putQ p (r.length : Int) (putsR r s).1, putM p (r.length : Int) (putsR r s).1 (putsR r s).2)
def putsK (l : List Pf) (s : List Pr × Nat) (k : Nat) : List Pr × Nat := putsR (l.take k).reverse s
theorem putsK_succ (l : List Pf) (s : List Pr × Nat) (k : Nat) (h : k < l.length) : putsK l s (k + 1) = (putQ l[k] (k : Int) (putsK l s k).1, putM l[k] (k : Int) (putsK l s k).1 (putsK l s k).2) := by
  unfold putsK
  rw [List.take_succ_eq_append_getElem h, List.reverse_append]
  show (putQ l[k] (((l.take k).reverse.length : Nat) : Int) _, putM l[k] (((l.take k).reverse.length : Nat) : Int) _ _) = _
  have e : (l.take k).reverse.length = k := by simp; omega
  rw [e]
  rfl
theorem putQ_srt {p : Pf} {v : Int} {L : List Pr} (h : Srt L) : Srt (putQ p v L) := by
  unfold putQ
  split
  · exact put_srt h (by assumption)
  · exact h
/-- The prefixes that are there. -/
def Keys (L : List Pr) (q : Pf) : Prop := ∃ x ∈ L, x.p = q
theorem keys_put {p : Pf} {v : Int} {L : List Pr} (h : Srt L) (q : Pf) : Keys (putQ p v L) q ↔ Keys L q ∨ (psane p = true ∧ q = p) := by
  unfold putQ
  by_cases hp : psane p = true
  · rw [if_pos hp]
    constructor
    · rintro ⟨x, hx, rfl⟩
      rcases (mem_put h hp x).1 hx with rfl | ⟨a, _⟩
      · exact .inr ⟨hp, rfl⟩
      · exact .inl ⟨x, a, rfl⟩
    · rintro (⟨x, hx, rfl⟩ | ⟨_, rfl⟩)
      · by_cases e : x.p = p
        · exact ⟨⟨p, v⟩, (mem_put h hp _).2 (.inl rfl), e.symm⟩
        · exact ⟨x, (mem_put h hp _).2 (.inr ⟨hx, e⟩), rfl⟩
      · exact ⟨⟨q, v⟩, (mem_put h hp _).2 (.inl rfl), rfl⟩
  · rw [if_neg hp]
    constructor
    · exact .inl
    · rintro (h | ⟨h, _⟩)
      · exact h
      · exact absurd h hp
theorem nodes2 {L : List Pr} (h : Srt L) : 2 ≤ nodesL L := by
  have h1 := (nodes_bd h).2
  have h2 := (sumK_bd h L.length).2.2.1
  omega
/-- What puts leave: the prefixes; the nodes and slots are as many, if nothing was there, or no more than before. -/
theorem puts_spec (s : List Pr × Nat) (hs : Srt s.1) (hm : nodesL s.1 ≤ (s.2 : Int)) : ∀ r : List Pf, Srt (putsR r s).1 ∧ (∀ q, Keys (putsR r s).1 q ↔ Keys s.1 q ∨ (q ∈ r ∧ psane q = true)) ∧ ((putsR r s).2 : Int) = max (s.2 : Int) (nodesL (putsR r s).1) := by
  intro r
  induction r with
  | nil => exact ⟨hs, fun q => ⟨.inl, fun e => by rcases e with e | ⟨e, _⟩; exact e; cases e⟩, by show (s.2 : Int) = max (s.2 : Int) (nodesL s.1); omega⟩
  | cons p r ih =>
    obtain ⟨i1, i2, i3⟩ := ih
    have hsp := putQ_srt (p := p) (v := (r.length : Int)) i1
    refine ⟨hsp, fun q => ?_, ?_⟩
    · show Keys (putQ p _ _) q ↔ _
      rw [keys_put i1, i2]
      constructor
      · rintro ((h | ⟨h1, h2⟩) | ⟨h1, rfl⟩)
        · exact .inl h
        · exact .inr ⟨List.mem_cons_of_mem _ h1, h2⟩
        · exact .inr ⟨List.mem_cons_self .., h1⟩
      · rintro (h | ⟨h1, h2⟩)
        · exact .inl (.inl h)
        · rcases List.mem_cons.1 h1 with rfl | h1
          · exact .inr ⟨h2, rfl⟩
          · exact .inl (.inr ⟨h1, h2⟩)
    · show (putM p (r.length : Int) (putsR r s).1 (putsR r s).2 : Int) = max (s.2 : Int) (nodesL (putQ p (r.length : Int) (putsR r s).1))
      have hmo : nodesL (putsR r s).1 ≤ nodesL (putQ p (r.length : Int) (putsR r s).1) := nodes_mono i1 hsp (fun x hx => by
        obtain ⟨y, hy, e⟩ := (keys_put i1 x.p).2 (.inl ⟨x, hx, rfl⟩)
        exact ⟨y, hy, e⟩)
      have h2 := nodes2 hsp
      unfold putM
      unfold putQ at hmo h2 ⊢
      by_cases hp : psane p = true
      · simp only [if_pos hp] at hmo h2 ⊢
        omega
      · simp only [if_neg hp] at hmo h2 ⊢
        omega
/-- What is there behind prefixes taken out. -/
def delsR : List Pf → List Pr → List Pr
  | [], L => L
  | p :: r, L => delQ p (delsR r L)
theorem dels_mem (L : List Pr) : ∀ (r : List Pf) (x : Pr), x ∈ delsR r L ↔ x ∈ L ∧ ∀ p ∈ r, psane p = true → x.p ≠ p := by
  intro r
  induction r with
  | nil => intro x; simp [delsR]
  | cons p r ih =>
    intro x
    show x ∈ delQ p (delsR r L) ↔ _
    unfold delQ
    by_cases hp : psane p = true
    · rw [if_pos hp, mem_del, ih]
      constructor
      · rintro ⟨⟨h1, h2⟩, h3⟩
        exact ⟨h1, fun q hq hs => by rcases List.mem_cons.1 hq with rfl | hq; exact h3; exact h2 q hq hs⟩
      · rintro ⟨h1, h2⟩
        exact ⟨⟨h1, fun q hq => h2 q (List.mem_cons_of_mem _ hq)⟩, h2 p (List.mem_cons_self ..) hp⟩
    · rw [if_neg hp, ih]
      constructor
      · rintro ⟨h1, h2⟩
        exact ⟨h1, fun q hq hs => by rcases List.mem_cons.1 hq with rfl | hq; exact absurd hs hp; exact h2 q hq hs⟩
      · rintro ⟨h1, h2⟩
        exact ⟨h1, fun q hq => h2 q (List.mem_cons_of_mem _ hq)⟩

/-- All put, all taken out: nothing; put again: as many nodes and slots. -/
theorem gone_spec (l lo : List Pf) (hlo : ∀ q, q ∈ lo ↔ q ∈ l) :
    delsR lo (putsR l.reverse ([], 2)).1 = [] ∧ ((putsR l.reverse ([], 2)).2 : Int) = nodesL (putsR l.reverse ([], 2)).1 ∧
      ((putsR l.reverse ([], (putsR l.reverse ([], 2)).2)).2 : Int) = ((putsR l.reverse ([], 2)).2 : Int) ∧ nodesL (putsR l.reverse ([], (putsR l.reverse ([], 2)).2)).1 = ((putsR l.reverse ([], 2)).2 : Int) := by
  have hk0 : ∀ q, ¬ Keys [] q := fun q ⟨x, hx, _⟩ => by cases hx
  obtain ⟨a1, a2, a3⟩ := puts_spec ([], 2) srt_nil (by show nodesL [] ≤ 2; decide) l.reverse
  have h2 := nodes2 a1
  have hM : ((putsR l.reverse ([], 2)).2 : Int) = nodesL (putsR l.reverse ([], 2)).1 := by
    rw [a3]
    show max (((2 : Nat)) : Int) _ = _
    omega
  obtain ⟨b1, b2, b3⟩ := puts_spec ([], (putsR l.reverse ([], 2)).2) srt_nil (by show nodesL [] ≤ _; rw [hM]; exact h2) l.reverse
  have hsame : nodesL (putsR l.reverse ([], (putsR l.reverse ([], 2)).2)).1 = nodesL (putsR l.reverse ([], 2)).1 := by
    have e1 := nodes_mono b1 a1 (fun x hx => (a2 x.p).2 ((b2 x.p).1 ⟨x, hx, rfl⟩ |>.imp (fun h => h) id))
    have e2 := nodes_mono a1 b1 (fun x hx => (b2 x.p).2 ((a2 x.p).1 ⟨x, hx, rfl⟩ |>.imp (fun h => h) id))
    omega
  refine ⟨?_, hM, ?_, by rw [hsame, hM]⟩
  · refine List.eq_nil_iff_forall_not_mem.2 fun x hx => ?_
    obtain ⟨h3, h4⟩ := (dels_mem _ lo x).1 hx
    rcases (a2 x.p).1 ⟨x, h3, rfl⟩ with h5 | ⟨h5, h6⟩
    · exact hk0 _ h5
    · exact h4 x.p ((hlo _).2 (List.mem_reverse.1 h5)) h6 rfl
  · rw [b3, hsame]
    simp only
    omega

end Go.Proofs.Ytnmafhfjimagnaa

namespace Go.Proofs.Ytnmafhfjimagnaa
open Go.RowKit
set_option maxRecDepth 100000

/-- At the head of a round of puts, upon s. -/
def PutsRel (w : World) (t : Nat) (l : List Pf) (s : List Pr × Nat) (B : Nat) (n : Value) (wr : World) : Prop :=
  ∃ (k : Nat) (S : Nat → Prop), k ≤ l.length ∧ n = .int .i64 k ∧ Trie wr t S (putsK l s k).1 (putsK l s k).2 ∧ (putsK l s k).2 ≤ B + 128 * k ∧ (∀ b, S b → w.heap.size ≤ b) ∧ Below w.heap.size w wr
theorem puts_next {w wr w2 : World} {t : Nat} {l : List Pf} {s : List Pr × Nat} {B k : Nat} {S S2 : Nat → Prop} (hk : k < l.length) (hN : ∀ b, S b → w.heap.size ≤ b) (hB : Below w.heap.size w wr)
    (g1 : Trie w2 t S2 (putQ l[k] (k : Int) (putsK l s k).1) (putM l[k] (k : Int) (putsK l s k).1 (putsK l s k).2)) (g2 : Frm S wr w2) (g3 : Sub S S2 wr.heap.size) (g4 : putM l[k] (k : Int) (putsK l s k).1 (putsK l s k).2 ≤ (putsK l s k).2 + 128) (hm : (putsK l s k).2 ≤ B + 128 * k) :
    Trie w2 t S2 (putsK l s (k + 1)).1 (putsK l s (k + 1)).2 ∧ (putsK l s (k + 1)).2 ≤ B + 128 * (k + 1) ∧ (∀ b, S2 b → w.heap.size ≤ b) ∧ Below w.heap.size w w2 := by
  have hz := hB.size
  rw [putsK_succ l s k hk]
  refine ⟨g1, by simp only; omega, fun b hb => ?_, hB.trans (g2.below hN hz)⟩
  rcases g3 b hb with e | e
  · exact hN b e
  · omega

/-- At the head of a round of those taken out. -/
def DelsRel (w : World) (t : Nat) (lo : List Pf) (n : Nat) (L : List Pr) (M : Nat) (i : Value) (wr : World) : Prop :=
  ∃ (k : Nat) (S : Nat → Prop), k ≤ n ∧ i = .int .i64 k ∧ Trie wr t S (delsR (lo.take k).reverse L) M ∧ (∀ b, S b → w.heap.size ≤ b) ∧ Below w.heap.size w wr
theorem dels_next {w wr w2 : World} {t : Nat} {lo : List Pf} {L : List Pr} {M k : Nat} {x : Pf} {S S2 : Nat → Prop} (hk : k < lo.length) (hx : lo[k] = x) (hN : ∀ b, S b → w.heap.size ≤ b) (hB : Below w.heap.size w wr)
    (g1 : Trie w2 t S2 (delQ x (delsR (lo.take k).reverse L)) M) (g2 : Frm S wr w2) (g3 : Sub S S2 wr.heap.size) :
    Trie w2 t S2 (delsR (lo.take (k + 1)).reverse L) M ∧ (∀ b, S2 b → w.heap.size ≤ b) ∧ Below w.heap.size w w2 := by
  have hz := hB.size
  have e : delsR (lo.take (k + 1)).reverse L = delQ x (delsR (lo.take k).reverse L) := by
    rw [List.take_succ_eq_append_getElem hk, List.reverse_append, hx]
    rfl
  rw [e]
  refine ⟨g1, fun b hb => ?_, hB.trans (g2.below hN hz)⟩
  rcases g3 b hb with e | e
  · exact hN b e
  · omega

set_option maxHeartbeats 8000000 in
theorem gone_law (A : Option Addr) (cap : Nat) (l : List Pf) (back : Bool) (w : World) (hr : RdP w A l) :
    Calls Try.prog 5 #[.slice A l.length cap, .bool back] w fun e w' => e = .returned (.bool true) ∧ Below w.heap.size w w' := by
  have HR := Lib.hid hr
  clear hr
  by_cases hlen : 60 < l.length
  · have t0 : decide ((60 : Int) < (l.length : Int)) = true := by simp; omega
    go_enter Try.func5, Try.ntmps5
    go_wp2_with fail
    refine (awake5_any _).mono ?_
    rintro e w1 ⟨rfl, hw1⟩
    go_wp2
    go_ret
    exact ⟨rfl, hw1⟩
  · have t0 : decide ((60 : Int) < (l.length : Int)) = false := by simp; omega
    go_enter Try.func5, Try.ntmps5
    go_wp2_with fail
    refine (awake5_any _).mono ?_
    rintro e w1 ⟨rfl, hw1⟩
    have z1 := hw1.size
    go_wp2_with fail
    refine (trie_new _).mono ?_
    rintro e w3 ⟨t, S3, rfl, hT3, hb3, hS3⟩
    have b3 : Below w.heap.size w w3 := hw1.trans (hb3.mono z1)
    have n3 : ∀ b, S3 b → w.heap.size ≤ b := fun b hb => by have := hS3 b hb; omega
    have HT3 := Lib.hid hT3
    have HN3 := Lib.hid n3
    clear hT3 n3 hS3 hb3 hw1
    go_wp2_with fail
    go_loopw [7] (fun n wr => PutsRel w t l ([], 2) 2 n wr) (fun n _ => l.length - (intOf n).toNat)
    case atStart => exact ⟨0, S3, Nat.zero_le _, rfl, HT3.out, Nat.le_refl _, HN3.out, b3⟩
    case round =>
      obtain ⟨k, S, hk, rfl, hT, hm, hN, hB⟩ := hrel
      have HT := Lib.hid hT
      have HN := Lib.hid hN
      clear hT hN HT3 HN3
      by_cases hlt : k < l.length
      · obtain ⟨g, off, rfl, hg, hc⟩ := HR.out (by intro e; rw [e] at hlt; cases hlt)
        obtain ⟨c0, c1, c2, c3⟩ := hc (k) hlt
        have d0 := (hB.cell (p := ⟨g, off + (k) * 4, none⟩) hg).trans c0
        have d1 := (hB.cell (p := ⟨g, off + (k) * 4 + 1, none⟩) hg).trans c1
        have d2 := (hB.cell (p := ⟨g, off + (k) * 4 + 2, none⟩) hg).trans c2
        have d3 := (hB.cell (p := ⟨g, off + (k) * 4 + 3, none⟩) hg).trans c3
        clear c0 c1 c2 c3 hc
        obtain ⟨x, hx⟩ : ∃ x, l[k] = x := ⟨_, rfl⟩
        rw [hx] at d0 d1 d2 d3
        have HXX := Lib.hid hx
        clear hx
        go_wp2_with fail
        refine (trie_put HT.out (by omega) x k).mono ?_
        rintro e w6 ⟨⟨rfl, S6, g1, g2, g3⟩, g4⟩
        rw [← HXX.out] at g1 g4
        obtain ⟨r1, r2, r3, r4⟩ := puts_next hlt HN.out hB g1 g2 g3 g4 hm
        have R1 := Lib.hid r1
        have R3 := Lib.hid r3
        clear g1 g2 g3 g4 r1 r3 d0 d1 d2 d3
        go_wp2
        go_roundw
        case rel => exact ⟨k + 1, S6, by omega, by go_num, R1.out, r2, R3.out, r4⟩
        case measure => simp [intOf]; omega
      · have hkl : k = l.length := by omega
        have hP : putsK l ([], 2) k = putsR l.reverse ([], 2) := by unfold putsK; rw [hkl, List.take_length]
        have t1 : decide (k < l.length) = false := by simp; omega
        rw [hP] at HT hm
        obtain ⟨lo, hlo⟩ : ∃ lo : List Pf, lo = if back = true then l.reverse else l := ⟨_, rfl⟩
        have hmem : ∀ q, q ∈ lo ↔ q ∈ l := fun q => by rw [hlo]; split <;> simp
        have hll : lo.length = l.length := by rw [hlo]; split <;> simp
        obtain ⟨G1, G2, G3, G4⟩ := gone_spec l lo.reverse (fun q => by rw [List.mem_reverse]; exact hmem q)
        obtain ⟨P1, hP1⟩ : ∃ P1, putsR l.reverse ([], 2) = P1 := ⟨_, rfl⟩
        rw [hP1] at HT hm G1 G2 G3 G4
        have HP1 := Lib.hid hP1
        have HLO := Lib.hid hll
        have HLo := Lib.hid hlo
        have HG1 := Lib.hid G1
        have HG2 := Lib.hid G2
        have HG3 := Lib.hid G3
        have HG4 := Lib.hid G4
        have hM : P1.2 ≤ 20000 := by omega
        clear hkl hP hlo hmem hll hP1 G1 G2 G3 G4 hm
        go_wp2_with fail
        refine (trie_slots HT.out).mono ?_
        rintro e w4 ⟨rfl, rfl⟩
        go_wp2_with fail
        go_loopw [9] (fun i w' => DelsRel w t lo l.length P1.1 P1.2 i w') (fun n _ => l.length - (intOf n).toNat)
        case atStart => exact ⟨0, S, Nat.zero_le _, rfl, HT.out, HN.out, hB⟩
        case round =>
          clear HT HN hB b3
          obtain ⟨k, S, hk, rfl, hT, hN, hB⟩ := hrel
          have HT := Lib.hid hT
          have HN := Lib.hid hN
          clear hT hN
          by_cases hlt : k < l.length
          · cases hbk : back
            · have HB : Hid (lo = l) := by rw [HLo.out, hbk]; exact rfl
              obtain ⟨g, off, rfl, hg, hc⟩ := HR.out (by intro e; rw [e] at hlt; cases hlt)
              obtain ⟨c0, c1, c2, c3⟩ := hc (k) hlt
              have d0 := (hB.cell (p := ⟨g, off + (k) * 4, none⟩) hg).trans c0
              have d1 := (hB.cell (p := ⟨g, off + (k) * 4 + 1, none⟩) hg).trans c1
              have d2 := (hB.cell (p := ⟨g, off + (k) * 4 + 2, none⟩) hg).trans c2
              have d3 := (hB.cell (p := ⟨g, off + (k) * 4 + 3, none⟩) hg).trans c3
              clear c0 c1 c2 c3 hc
              obtain ⟨x, hx⟩ : ∃ x, l[k] = x := ⟨_, rfl⟩
              rw [hx] at d0 d1 d2 d3
              have HXX := Lib.hid hx
              clear hx
              have hx2 : lo[k]'(by rw [HLO.out]; exact hlt) = x := by have e9 := HB.out; subst e9; exact HXX.out
              have HX2 := Lib.hid hx2
              clear hx2
              go_wp2_with fail
              refine (trie_del HT.out (by omega) x).mono ?_
              rintro e w6 ⟨rfl, S6, g1, g2, g3⟩
              obtain ⟨r1, r3, r4⟩ := dels_next (lo := lo) (by rw [HLO.out]; exact hlt) HX2.out HN.out hB g1 g2 g3
              have R1 := Lib.hid r1
              have R3 := Lib.hid r3
              clear g1 g2 g3 r1 r3 d0 d1 d2 d3
              go_wp2
              go_roundw
              case rel => exact ⟨k + 1, S6, by omega, by go_num, R1.out, R3.out, r4⟩
              case measure => simp [intOf]; omega
            · have HB : Hid (lo = l.reverse) := by rw [HLo.out, hbk]; exact rfl
              obtain ⟨j, hj⟩ : ∃ j, l.length - 1 - k = j := ⟨_, rfl⟩
              have hlt2 : j < l.length := by omega
              obtain ⟨g, off, rfl, hg, hc⟩ := HR.out (by intro e; rw [e] at hlt; cases hlt)
              obtain ⟨c0, c1, c2, c3⟩ := hc (j) hlt2
              have d0 := (hB.cell (p := ⟨g, off + (j) * 4, none⟩) hg).trans c0
              have d1 := (hB.cell (p := ⟨g, off + (j) * 4 + 1, none⟩) hg).trans c1
              have d2 := (hB.cell (p := ⟨g, off + (j) * 4 + 2, none⟩) hg).trans c2
              have d3 := (hB.cell (p := ⟨g, off + (j) * 4 + 3, none⟩) hg).trans c3
              clear c0 c1 c2 c3 hc
              obtain ⟨x, hx⟩ : ∃ x, l[j] = x := ⟨_, rfl⟩
              rw [hx] at d0 d1 d2 d3
              have HXX := Lib.hid hx
              clear hx
              have hx2 : lo[k]'(by rw [HLO.out]; exact hlt) = x := by
                rw [← HXX.out]
                have e9 := HB.out
                subst e9
                simp only [List.getElem_reverse, hj]
              have HX2 := Lib.hid hx2
              have y1 : (l.length : Int) - 1 - (k : Int) = (j : Int) := by omega
              have HJ := Lib.hid hj
              clear hx2 hj
              go_wp2_with fail
              refine (trie_del HT.out (by omega) x).mono ?_
              rintro e w6 ⟨rfl, S6, g1, g2, g3⟩
              obtain ⟨r1, r3, r4⟩ := dels_next (lo := lo) (by rw [HLO.out]; exact hlt) HX2.out HN.out hB g1 g2 g3
              have R1 := Lib.hid r1
              have R3 := Lib.hid r3
              clear g1 g2 g3 r1 r3 d0 d1 d2 d3
              go_wp2
              go_roundw
              case rel => exact ⟨k + 1, S6, by omega, by go_num, R1.out, R3.out, r4⟩
              case measure => simp [intOf]; omega
          · have hkl : k = l.length := by omega
            have t1 : decide (k < l.length) = false := by simp; omega
            have hE : delsR (lo.take k).reverse P1.1 = [] := by rw [hkl, ← HLO.out, List.take_length]; exact HG1.out
            rw [hE] at HT
            have cl : Calls Try.prog 27 #[.pointer (some ⟨t, 0, none⟩)] _ fun e w' => e = .returned (.int .i64 0) ∧ _ = w' := trie_len HT.out
            have CL := Lib.hid cl
            clear hE hkl cl
            go_wp2_with fail
            refine CL.out.mono ?_
            rintro e w5 ⟨rfl, rfl⟩
            have cn := trie_nodes HT.out
            rw [show nodesL [] = 2 from rfl] at cn
            have CN := Lib.hid cn
            clear cn CL
            go_wp2_with fail
            refine CN.out.mono ?_
            rintro e w6 ⟨rfl, hb6⟩
            have z0 := hB.size
            have b6 := hB.trans (hb6.mono z0)
            have HT6 := Lib.hid (HT.out.keep hb6)
            have z6 := hb6.size
            clear hb6 CN
            go_wp2_with fail
            refine (all_any HT6.out).mono ?_
            rintro e w7 ⟨v7, rfl, ho7, hb7⟩
            have b7 := b6.trans (hb7.mono (by omega))
            have HT7 := Lib.hid (HT6.out.keep hb7)
            have z7 := hb7.size
            obtain ⟨A7, c7, rfl, -⟩ := own_val ho7
            clear hb7 ho7
            go_wp2_with fail
            refine (trie_slots HT7.out).mono ?_
            rintro e w8 ⟨rfl, rfl⟩
            go_wp2_with fail
            go_loopw [11] (fun n wr => PutsRel w t l ([], P1.2) P1.2 n wr) (fun n _ => l.length - (intOf n).toNat)
            case atStart => exact ⟨0, S, Nat.zero_le _, rfl, HT7.out, Nat.le_refl _, HN.out, b7⟩
            case round =>
              clear HT HN hB HT6 HT7 b6 b7
              obtain ⟨k, S, hk, rfl, hT, hm, hN, hB⟩ := hrel
              have HT := Lib.hid hT
              have HN := Lib.hid hN
              clear hT hN
              by_cases hlt : k < l.length
              · obtain ⟨g, off, rfl, hg, hc⟩ := HR.out (by intro e; rw [e] at hlt; cases hlt)
                obtain ⟨c0, c1, c2, c3⟩ := hc (k) hlt
                have d0 := (hB.cell (p := ⟨g, off + (k) * 4, none⟩) hg).trans c0
                have d1 := (hB.cell (p := ⟨g, off + (k) * 4 + 1, none⟩) hg).trans c1
                have d2 := (hB.cell (p := ⟨g, off + (k) * 4 + 2, none⟩) hg).trans c2
                have d3 := (hB.cell (p := ⟨g, off + (k) * 4 + 3, none⟩) hg).trans c3
                clear c0 c1 c2 c3 hc
                obtain ⟨x, hx⟩ : ∃ x, l[k] = x := ⟨_, rfl⟩
                rw [hx] at d0 d1 d2 d3
                have HXX := Lib.hid hx
                clear hx
                go_wp2_with fail
                refine (trie_put HT.out (by omega) x k).mono ?_
                rintro e w6 ⟨⟨rfl, S6, g1, g2, g3⟩, g4⟩
                rw [← HXX.out] at g1 g4
                obtain ⟨r1, r2, r3, r4⟩ := puts_next hlt HN.out hB g1 g2 g3 g4 hm
                have R1 := Lib.hid r1
                have R3 := Lib.hid r3
                clear g1 g2 g3 g4 r1 r3 d0 d1 d2 d3
                go_wp2
                go_roundw
                case rel => exact ⟨k + 1, S6, by omega, by go_num, R1.out, r2, R3.out, r4⟩
                case measure => simp [intOf]; omega
              · have hkl : k = l.length := by omega
                have t1 : decide (k < l.length) = false := by simp; omega
                have hP : putsK l ([], P1.2) k = putsR l.reverse ([], P1.2) := by unfold putsK; rw [hkl, List.take_length]
                rw [hP] at HT
                have cs := trie_slots HT.out
                rw [HG3.out] at cs
                have cn := fun (W : World) (h : Trie W t S (putsR l.reverse ([], P1.2)).1 (putsR l.reverse ([], P1.2)).2) => trie_nodes h
                simp only [HG4.out] at cn
                have CS := Lib.hid cs
                have CN := Lib.hid cn
                clear cs cn hP hkl hm
                go_wp2_with fail
                refine CS.out.mono ?_
                rintro e w9 ⟨rfl, rfl⟩
                go_wp2_with fail
                refine (CN.out _ HT.out).mono ?_
                rintro e w10 ⟨rfl, hb10⟩
                have b10 := hB.trans (hb10.mono hB.size)
                go_wp2
                go_ret
                exact ⟨rfl, b10⟩

end Go.Proofs.Ytnmafhfjimagnaa

namespace Go.Proofs.Ytnmafhfjimagnaa
open Go.ChangeShapes Go.WideShapes Go.ChangeAt Go.RowKit

set_option maxRecDepth 100000 in
theorem trieGone_lifted (os : Os) (started : os.Started) (H : Type) (enc : TypeId × Value → H) :
    ReturnsInHanded {} Try.checked os 5 .any (Rows.trieGoneSpec.pre6 enc Try.prog Try.f5 Rows.trieGoneRow.domain false) (Rows.trieGoneSpec.post enc Try.prog Try.f5 false true false false) := by
  refine returnsInHanded_of_change (C := Try.checked) own started (by kernel_rfl) Try.func5
    (ChangeSpec.witness6 (enc := enc) (C := Try.checked) false ⟨#[], #[.slice none 0 0, .bool false], []⟩ 8 (by kernel_rfl) (by kernel_rfl) (by kernel_rfl) (by kernel_rfl)) ?_
  intro W base args ds gs before hval0 hW hcnd _
  have hval : ∀ (j : Nat) t v, Try.f5.params[j]? = some t → args[j]? = some v → Value.okWide Try.prog W .any base t v := hval0
  have hW' := hW
  obtain ⟨p, q, hA0, hV, rfl, hfz, hnd⟩ := hW
  have hA : DataW.TrodAll enc Try.prog W 0 (fun _ => true) true Try.f5.params.toList args.toList ds p := hA0
  rw [Try.params5] at hA hval
  obtain ⟨v0, vs0, d0, ds0, p0, q0, hargs, rfl, rfl, h0, r0⟩ := trodAll_cons hA
  obtain ⟨v1, vs1, d1, ds1, p1, q1, rfl, rfl, rfl, h1, r1⟩ := trodAll_cons r0
  obtain ⟨rfl, rfl, rfl⟩ := trodAll_nil r1
  obtain rfl : args = #[v0, v1] := by cases args; simp_all
  obtain ⟨rfl, rfl⟩ := trodVars_none hV
  have lt0 : ∀ x ∈ p0, x.block < W.heap.size := by obtain ⟨m, hm⟩ := h0; exact DataW.trod_lt m _ _ _ hm
  obtain ⟨A0, cap0, l0, rfl, w0⟩ := open_pfs (hval 0 64 v0 rfl rfl) h0 (fun _ => rfl)
  have lt1 : ∀ x ∈ p1, x.block < W.heap.size := by obtain ⟨m, hm⟩ := h1; exact DataW.trod_lt m _ _ _ hm
  obtain ⟨a1, rfl, e1, f1⟩ := open_bool Try.underlying4 (hval 1 4 v1 rfl rfl) h1
  clear hA0 hval0
  refine (gone_law A0 cap0 l0 a1 W w0).mono fun e W' ⟨he, bel⟩ => ?_
  subst he
  exact ⟨_, rfl, _, _, _, [], _, [], hW', trodAll_mk1 (shut_bool Try.underlying4 _), (trodAll_cons_mk (Below.trod laidOut (by kernel_rfl) (of_decide_eq_true (by kernel_rfl)) h0 bel lt0) (trodAll_cons_mk (Below.trod laidOut (by kernel_rfl) (of_decide_eq_true (by kernel_rfl)) h1 bel lt1) trodAll_mk0)), rfl, bel.frame _, fun h => by cases h⟩

theorem trieGone_holds : Rows.TrieGoneSaid :=
  OpenClaim.holds_of_wide 5 Try.f5 rfl rfl rfl rfl rfl rfl rfl ⟨rfl, rfl, rfl, rfl, rfl⟩ rfl rfl rfl rfl rfl (by kernel_rfl) Try.func5 (by kernel_rfl)
    (of_decide_eq_true (by kernel_rfl)) (by unfold Func.isWrapper; first | (rw [if_pos (by decide +kernel)]; kernel_rfl) | (rw [if_neg (by decide +kernel)]; exact ⟨rfl, rfl⟩))
    (fun os started H enc _ => trieGone_lifted os started H enc)

end Go.Proofs.Ytnmafhfjimagnaa
