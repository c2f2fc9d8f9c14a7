/-
  TriePut: for every input the call returns true, and each argument reads afterwards as it read before. No condition.
-/
import Derived.Test.YtnmafhfjimagnaaE1
import Derived.Test.YtnmafhfjimagnaaQf
import Derived.Test.YtnmafhfjimagnaaRowP
import Derived.Deep.Slices
namespace Go.Proofs.Ytnmafhfjimagnaa
open Go.RowKit
set_option maxRecDepth 100000

/-- At the head of a round of things done: the tree holds what the first k of them leave; its blocks are from N on. -/
def PlayRel (w : World) (N t : Nat) (ls : List Ac) (P : World → Prop) (n : Value) (wr : World) : Prop :=
  ∃ (k : Nat) (S : Nat → Prop), k ≤ ls.length ∧ n = .int .i64 k ∧ Trie wr t S (playK ls k).1 (playK ls k).2 ∧ (playK ls k).2 ≤ 2 + 128 * k ∧ (∀ b, S b → N ≤ b) ∧ Below w.heap.size w wr ∧ N ≤ wr.heap.size ∧ P wr
theorem play_next {w0 wr w2 : World} {N t : Nat} {ls : List Ac} {k : Nat} {S S2 : Nat → Prop} (hk : k < ls.length) (hN : ∀ b, S b → N ≤ b) (hz : N ≤ wr.heap.size) (hN0 : w0.heap.size ≤ N) (hB : Below w0.heap.size w0 wr)
    (g1 : Trie w2 t S2 (doQ ls[k] (playK ls k).1) (doM ls[k] (playK ls k).1 (playK ls k).2)) (g2 : Frm S wr w2) (g3 : Sub S S2 wr.heap.size) (g4 : doM ls[k] (playK ls k).1 (playK ls k).2 ≤ (playK ls k).2 + 128) (hm : (playK ls k).2 ≤ 2 + 128 * k) :
    Trie w2 t S2 (playK ls (k + 1)).1 (playK ls (k + 1)).2 ∧ (playK ls (k + 1)).2 ≤ 2 + 128 * (k + 1) ∧ (∀ b, S2 b → N ≤ b) ∧ Below w0.heap.size w0 w2 ∧ N ≤ w2.heap.size ∧ Below N wr w2 := by
  have hbn : Below N wr w2 := g2.below hN hz
  rw [playK_succ ls k hk]
  refine ⟨g1, by simp only; omega, fun b hb => ?_, hB.trans (hbn.mono hN0), Nat.le_trans hz g2.size, hbn⟩
  rcases g3 b hb with e | e
  · exact hN b e
  · omega
theorem put_twice {L : List Pr} {p q : Pf} {v : Int} (hs : Srt L) (hp : psane p = true) : (putQ p v (putQ p v L)).length = (if (lk L p).isSome = true then L.length else L.length + 1) ∧ getQ p (putQ p v (putQ p v L)) = some v ∧ (q ≠ p → getQ q (putQ p v (putQ p v L)) = getQ q L) := by
  unfold putQ getQ
  simp only [hp, if_true]
  have hs1 := put_srt (v := v) hs hp
  refine ⟨?_, ?_, fun hq => ?_⟩
  · rw [put_len hs1 hp, lk_put hs hp p, if_pos rfl]
    simp only [Option.isSome_some, if_true]
    exact put_len hs hp
  · rw [lk_put hs1 hp p, if_pos rfl]
  · rw [lk_put hs1 hp q, if_neg hq, lk_put hs hp q, if_neg hq]

set_option maxHeartbeats 4000000 in
theorem put_law (A : Option Addr) (cap : Nat) (ls : List Ac) (p : Pf) (v : Int) (q : Pf) (w : World) (hr : RdA w A ls) :
    Calls Try.prog 9 #[.slice A ls.length cap, .agg #[.int .u64 (u p.a.hi), .int .u64 (u p.a.lo), .bool p.a.v6, .int .i64 p.n], .int .i64 v, .agg #[.int .u64 (u q.a.hi), .int .u64 (u q.a.lo), .bool q.a.v6, .int .i64 q.n]] w fun e w' => e = .returned (.bool true) ∧ Below w.heap.size w w' := by
  have HR := Lib.hid hr
  clear hr
  by_cases hlen : 60 < ls.length
  · have t0 : decide ((60 : Int) < (ls.length : Int)) = true := by simp; omega
    go_enter Try.func9, Try.ntmps9
    go_wp2_with fail
    refine (awake5_any _).mono ?_
    rintro e w1 ⟨rfl, hw1⟩
    have b1 : Below w.heap.size w w1 := below_of (by go_grown) hw1
    go_wp2
    go_ret
    exact ⟨rfl, b1⟩
  · have t0 : decide ((60 : Int) < (ls.length : Int)) = false := by simp; omega
    cases hp : psane p
    · have hs' : (!psane p) = true := by simp [hp]
      clear hp
      go_enter Try.func9, Try.ntmps9
      go_wp2_with fail
      refine (awake5_any _).mono ?_
      rintro e w1 ⟨rfl, hw1⟩
      have zw1 := hw1.size
      have bw1 := below_of (w := w) (by go_grown) hw1
      try simp at zw1
      obtain ⟨p1a, p1b, p1c, p1g, p1d, p1e, p1f, p1h, p1z⟩ := cells4 (b := w.heap.size) hw1 (by go_size) (by go_simp <;> rfl) (by go_simp <;> rfl) (by go_simp <;> rfl) (by go_simp <;> rfl) (by go_simp <;> rfl) (by go_simp <;> rfl) (by go_simp <;> rfl) (by go_simp <;> rfl)
      clear hw1
      go_wp2_with fail
      refine (rpsane_any p _).mono ?_
      rintro e w2 ⟨rfl, hw2⟩
      have zw2 := hw2.size
      have bw2 := below_of (w := w) (by go_grown) hw2
      try simp at zw2
      have hw1b := below_of (w := w1) (by go_grown) hw2
      obtain ⟨p2a, p2b, p2c, p2g, p2d, p2e, p2f, p2h, p2z⟩ := cells4 hw1b p1z p1a p1b p1c p1g p1d p1e p1f p1h
      clear p1a p1b p1c p1g p1d p1e p1f p1h p1z hw2 hw1b
      go_wp2
      go_ret
      exact ⟨rfl, bw2⟩
    · have hs' : (!psane p) = false := by simp [hp]
      have HP := Lib.hid hp
      clear hp
      go_enter Try.func9, Try.ntmps9
      go_wp2_with fail
      refine (awake5_any _).mono ?_
      rintro e w1 ⟨rfl, hw1⟩
      have zw1 := hw1.size
      have bw1 := below_of (w := w) (by go_grown) hw1
      try simp at zw1
      obtain ⟨p3a, p3b, p3c, p3g, p3d, p3e, p3f, p3h, p3z⟩ := cells4 (b := w.heap.size) hw1 (by go_size) (by go_simp <;> rfl) (by go_simp <;> rfl) (by go_simp <;> rfl) (by go_simp <;> rfl) (by go_simp <;> rfl) (by go_simp <;> rfl) (by go_simp <;> rfl) (by go_simp <;> rfl)
      obtain ⟨q3a, q3b, q3c, q3g, q3d, q3e, q3f, q3h, q3z⟩ := cells4 (b := w.heap.size + 1) hw1 (by go_size) (by go_simp <;> rfl) (by go_simp <;> rfl) (by go_simp <;> rfl) (by go_simp <;> rfl) (by go_simp <;> rfl) (by go_simp <;> rfl) (by go_simp <;> rfl) (by go_simp <;> rfl)
      clear hw1
      go_wp2_with fail
      refine (rpsane_any p _).mono ?_
      rintro e w2 ⟨rfl, hw2⟩
      have zw2 := hw2.size
      have bw2 := below_of (w := w) (by go_grown) hw2
      try simp at zw2
      have hw1b := below_of (w := w1) (by go_grown) hw2
      obtain ⟨p4a, p4b, p4c, p4g, p4d, p4e, p4f, p4h, p4z⟩ := cells4 hw1b p3z p3a p3b p3c p3g p3d p3e p3f p3h
      obtain ⟨q4a, q4b, q4c, q4g, q4d, q4e, q4f, q4h, q4z⟩ := cells4 hw1b q3z q3a q3b q3c q3g q3d q3e q3f q3h
      clear p3a p3b p3c p3g p3d p3e p3f p3h p3z q3a q3b q3c q3g q3d q3e q3f q3h q3z hw2 hw1b
      go_wp2_with fail
      refine (trie_new _).mono ?_
      rintro e w3 ⟨t, S3, rfl, hT3, hb3, hS3⟩
      have hPp : PBox w3 w.heap.size p := PBox.keep ⟨p4a, p4b, p4c, p4g, p4d, p4e, p4f, p4h, p4z⟩ hb3
      have hPq : PBox w3 (w.heap.size + 1) q := PBox.keep ⟨q4a, q4b, q4c, q4g, q4d, q4e, q4f, q4h, q4z⟩ hb3
      have b3 : Below w.heap.size w w3 := bw2.trans (hb3.mono bw2.size)
      have n3 : ∀ b, S3 b → w.heap.size + 1 + 1 ≤ b := fun b hb => by have := hS3 b hb; omega
      have z3 : w.heap.size + 1 + 1 ≤ w3.heap.size := by have := hPq.2.2.2.2.2.2.2.2; omega
      clear p4a p4b p4c p4g p4d p4e p4f p4h p4z q4a q4b q4c q4g q4d q4e q4f q4h q4z
      clear hS3 hb3
      have HT3 := Lib.hid hT3
      have HN3 := Lib.hid n3
      clear hT3 n3
      go_wp2_with fail
      go_loopw [11] (fun n wr => PlayRel w (w.heap.size + 1 + 1) t ls (fun W => PBox W w.heap.size p ∧ PBox W (w.heap.size + 1) q) n wr) (fun n _ => ls.length - (intOf n).toNat)
      case atStart => exact ⟨0, S3, Nat.zero_le _, rfl, HT3.out, Nat.le_refl _, HN3.out, b3, z3, hPp, hPq⟩
      case round =>
        obtain ⟨k, S, hk, rfl, hT, hm, hN, hB, hz, hP1, hP2⟩ := hrel
        have HT := Lib.hid hT
        have HN := Lib.hid hN
        have HP1 := Lib.hid hP1
        have HP2 := Lib.hid hP2
        clear hT hN hP1 hP2 hPp hPq HT3 HN3
        by_cases hlt : k < ls.length
        · obtain ⟨g, off, rfl, hg, hc⟩ := HR.out (by intro e; rw [e] at hlt; cases hlt)
          obtain ⟨c0, c1, c2, c3, c4, c5⟩ := hc k hlt
          have d0 := (hB.cell (p := ⟨g, off + k * 6, none⟩) hg).trans c0
          have d1 := (hB.cell (p := ⟨g, off + k * 6 + 1, none⟩) hg).trans c1
          have d2 := (hB.cell (p := ⟨g, off + k * 6 + 2, none⟩) hg).trans c2
          have d3 := (hB.cell (p := ⟨g, off + k * 6 + 3, none⟩) hg).trans c3
          have d4 := (hB.cell (p := ⟨g, off + k * 6 + 4, none⟩) hg).trans c4
          have d5 := (hB.cell (p := ⟨g, off + k * 6 + 5, none⟩) hg).trans c5
          have HX : Hid (ls[k] = ls[k]) := Lib.hid rfl
          clear c0 c1 c2 c3 c4 c5 hc
          obtain ⟨x, hx⟩ : ∃ x, ls[k] = x := ⟨_, rfl⟩
          rw [hx] at d0 d1 d2 d3 d4 d5
          have HXX := Lib.hid hx
          clear hx HX
          go_wp2_with fail
          refine (do_any HT.out (by omega) x).mono ?_
          rintro e w6 ⟨⟨rfl, S6, g1, g2, g3⟩, g4⟩
          rw [← HXX.out] at g1 g4
          obtain ⟨r1, r2, r3, r4, r5, r6⟩ := play_next hlt HN.out hz (by omega) hB g1 g2 g3 g4 hm
          have hQ1 := HP1.out.frm g2 (fun e => by have := HN.out _ e; omega)
          have hQ2 := HP2.out.frm g2 (fun e => by have := HN.out _ e; omega)
          have R1 := Lib.hid r1
          have R3 := Lib.hid r3
          clear g1 g2 g3 g4 r1 r3 r6 d0 d1 d2 d3 d4 d5
          go_wp2
          go_roundw
          case rel => exact ⟨k + 1, S6, by omega, by go_num, R1.out, r2, R3.out, r4, r5, hQ1, hQ2⟩
          case measure => simp [intOf]; omega
        · have bB := hB
          have hs := HT.out.srt
          obtain ⟨T1, T2, T3⟩ := put_twice (L := (playK ls k).1) (p := p) (q := q) (v := v) hs HP.out
          have t1 : decide (k < ls.length) = false := by simp; omega
          have hM : (playK ls k).2 ≤ 20000 := by omega
          generalize (playK ls k).1 = L at HT T1 T2 T3 hs
          generalize (playK ls k).2 = M at HT hM
          have hM2 : putM p v L M ≤ M + 128 ∨ True := .inr trivial
          obtain ⟨G1, hG1⟩ : ∃ G1, getQ p L = G1 := ⟨_, rfl⟩
          obtain ⟨G2, hG2⟩ : ∃ G2, getQ q L = G2 := ⟨_, rfl⟩
          have hlk : lk L p = G1 := by rw [← hG1]; unfold getQ; rw [if_pos HP.out]
          have hE : putE p = 0 := by unfold putE; rw [if_pos HP.out]
          rw [hlk] at T1
          rw [hG2] at T3
          have HG1 := Lib.hid hG1
          have HG2 := Lib.hid hG2
          have HT1 := Lib.hid T1
          have HT2 := Lib.hid T2
          have HT3 := Lib.hid T3
          have HE := Lib.hid hE
          have hln : (L.length : Int) ≤ 100000 := by
            obtain ⟨T, -, hr, hl, -⟩ := HT.out
            have := rep_len hr
            omega
          obtain ⟨pa, pb, pc, pd, -⟩ := id HP1.out
          obtain ⟨qa, qb, qc, qd, -⟩ := id HP2.out
          clear hG1 hG2 T1 T2 T3 hE hlk hs HR hB b3 hM2 hm
          go_wp2_with fail
          refine (trie_len HT.out).mono ?_
          rintro e w4 ⟨rfl, rfl⟩
          have c1 := trie_get HT.out p
          rw [HG1.out] at c1
          have C1 := Lib.hid c1
          clear c1
          go_wp2_with fail
          refine (C1.out).mono ?_
          rintro e w5 ⟨rfl, hw5⟩
          have bw5 := bB.trans (hw5.mono (by omega))
          have HT' := Lib.hid (HT.out.keep hw5)
          have HP1' := Lib.hid (HP1.out.keep hw5)
          have HP2' := Lib.hid (HP2.out.keep hw5)
          have zw5 := hw5.size
          clear hw5 HT HP1 HP2 bB pa pb pc pd qa qb qc qd
          have HT := HT'
          have HP1 := HP1'
          have HP2 := HP2'
          have bB := bw5
          clear HT' HP1' HP2' bw5
          obtain ⟨pa, pb, pc, pd, -⟩ := id HP1.out
          obtain ⟨qa, qb, qc, qd, -⟩ := id HP2.out
          have c2 := trie_get HT.out q
          rw [HG2.out] at c2
          have C2 := Lib.hid c2
          clear c2 C1
          go_wp2_with fail
          refine (C2.out).mono ?_
          rintro e w6 ⟨rfl, hw6⟩
          have bw6 := bB.trans (hw6.mono (by omega))
          have HT' := Lib.hid (HT.out.keep hw6)
          have HP1' := Lib.hid (HP1.out.keep hw6)
          have HP2' := Lib.hid (HP2.out.keep hw6)
          have zw6 := hw6.size
          clear hw6 HT HP1 HP2 bB pa pb pc pd qa qb qc qd
          have HT := HT'
          have HP1 := HP1'
          have HP2 := HP2'
          have bB := bw6
          clear HT' HP1' HP2' bw6
          obtain ⟨pa, pb, pc, pd, -⟩ := id HP1.out
          obtain ⟨qa, qb, qc, qd, -⟩ := id HP2.out
          have c3 := trie_put HT.out (by omega) p v
          rw [HE.out] at c3
          have C3 := Lib.hid c3
          clear c3 C2
          go_wp2_with fail
          refine (C3.out).mono ?_
          rintro e w7 ⟨⟨rfl, Sw7, g1, g2, g3⟩, g4⟩
          have bw7 : Below w.heap.size w w7 := bB.trans (g2.below (fun b hb => by have := HN.out b hb; omega) (by omega))
          have HP1' := Lib.hid (HP1.out.frm g2 (fun e => by have := HN.out _ e; omega))
          have HP2' := Lib.hid (HP2.out.frm g2 (fun e => by have := HN.out _ e; omega))
          have nw7 : ∀ b, Sw7 b → w.heap.size + 1 + 1 ≤ b := fun b hb => by
            rcases g3 b hb with e | e
            · exact HN.out b e
            · omega
          have HT' := Lib.hid g1
          have HN' := Lib.hid nw7
          have zw7 := g2.size
          clear g1 g2 g3 nw7 HT HP1 HP2 HN bB pa pb pc pd qa qb qc qd
          have HT := HT'
          have HN := HN'
          have HP1 := HP1'
          have HP2 := HP2'
          have bB := bw7
          clear HT' HP1' HP2' HN' bw7
          obtain ⟨pa, pb, pc, pd, -⟩ := id HP1.out
          obtain ⟨qa, qb, qc, qd, -⟩ := id HP2.out
          have c4 := trie_put HT.out (by omega) p v
          rw [HE.out] at c4
          have C4 := Lib.hid c4
          have g47 := g4
          clear c4 C3 g4
          go_wp2_with fail
          refine (C4.out).mono ?_
          rintro e w8 ⟨⟨rfl, Sw8, g1, g2, g3⟩, g4⟩
          have bw8 : Below w.heap.size w w8 := bB.trans (g2.below (fun b hb => by have := HN.out b hb; omega) (by omega))
          have HP1' := Lib.hid (HP1.out.frm g2 (fun e => by have := HN.out _ e; omega))
          have HP2' := Lib.hid (HP2.out.frm g2 (fun e => by have := HN.out _ e; omega))
          have nw8 : ∀ b, Sw8 b → w.heap.size + 1 + 1 ≤ b := fun b hb => by
            rcases g3 b hb with e | e
            · exact HN.out b e
            · omega
          have HT' := Lib.hid g1
          have HN' := Lib.hid nw8
          have zw8 := g2.size
          clear g1 g2 g3 nw8 HT HP1 HP2 HN bB pa pb pc pd qa qb qc qd
          have HT := HT'
          have HN := HN'
          have HP1 := HP1'
          have HP2 := HP2'
          have bB := bw8
          clear HT' HP1' HP2' HN' bw8
          obtain ⟨pa, pb, pc, pd, -⟩ := id HP1.out
          obtain ⟨qa, qb, qc, qd, -⟩ := id HP2.out
          have c5 := trie_get HT.out p
          rw [HT2.out] at c5
          have C5 := Lib.hid c5
          clear c5 C4
          go_wp2_with fail
          refine (C5.out).mono ?_
          rintro e w9 ⟨rfl, hw9⟩
          have bw9 := bB.trans (hw9.mono (by omega))
          have HT' := Lib.hid (HT.out.keep hw9)
          have HP1' := Lib.hid (HP1.out.keep hw9)
          have HP2' := Lib.hid (HP2.out.keep hw9)
          have zw9 := hw9.size
          clear hw9 HT HP1 HP2 bB pa pb pc pd qa qb qc qd
          have HT := HT'
          have HP1 := HP1'
          have HP2 := HP2'
          have bB := bw9
          clear HT' HP1' HP2' bw9
          obtain ⟨pa, pb, pc, pd, -⟩ := id HP1.out
          obtain ⟨qa, qb, qc, qd, -⟩ := id HP2.out
          have c6 := trie_get HT.out q
          have C6 := Lib.hid c6
          clear c6 C5
          have c7 := fun (W : World) (h : Trie W t Sw8 (putQ p v (putQ p v L)) (putM p v (putQ p v L) (putM p v L M))) => trie_len h
          cases hg : G1.isSome
          · have hl2 : ((putQ p v (putQ p v L)).length : Int) = (L.length : Int) + 1 := by rw [HT1.out, hg]; simp
            simp only [hl2] at c7
            have C7 := Lib.hid c7
            have HG := Lib.hid hg
            clear c7 hl2
            by_cases hqp : q = p
            · have tq : pfB (u q.a.hi) (u q.a.lo) q.a.v6 q.n (u p.a.hi) (u p.a.lo) p.a.v6 p.n = true := (pfEq_iff q p).2 hqp
              have HQP := Lib.hid hqp
              clear hqp
              go_wp2_with fail
              refine (C6.out).mono ?_
              rintro e w10 ⟨rfl, hw10⟩
              have bw10 := bB.trans (hw10.mono (by omega))
              have HT' := Lib.hid (HT.out.keep hw10)
              have HP1' := Lib.hid (HP1.out.keep hw10)
              have HP2' := Lib.hid (HP2.out.keep hw10)
              have zw10 := hw10.size
              clear hw10 HT HP1 HP2 bB pa pb pc pd qa qb qc qd
              have HT := HT'
              have HP1 := HP1'
              have HP2 := HP2'
              have bB := bw10
              clear HT' HP1' HP2' bw10
              obtain ⟨pa, pb, pc, pd, -⟩ := id HP1.out
              obtain ⟨qa, qb, qc, qd, -⟩ := id HP2.out
              go_wp2_with fail
              refine (C7.out _ HT.out).mono ?_
              rintro e w11 ⟨rfl, rfl⟩
              go_wp2
              go_ret
              exact ⟨rfl, bB⟩
            · have tq : pfB (u q.a.hi) (u q.a.lo) q.a.v6 q.n (u p.a.hi) (u p.a.lo) p.a.v6 p.n = false := by
                cases h : pfB (u q.a.hi) (u q.a.lo) q.a.v6 q.n (u p.a.hi) (u p.a.lo) p.a.v6 p.n
                · rfl
                · exact absurd ((pfEq_iff q p).1 h) hqp
              have c8 := C6.out
              rw [HT3.out hqp] at c8
              have C8 := Lib.hid c8
              have HQP := Lib.hid hqp
              clear hqp c8
              go_wp2_with fail
              refine (C8.out).mono ?_
              rintro e w10 ⟨rfl, hw10⟩
              have bw10 := bB.trans (hw10.mono (by omega))
              have HT' := Lib.hid (HT.out.keep hw10)
              have HP1' := Lib.hid (HP1.out.keep hw10)
              have HP2' := Lib.hid (HP2.out.keep hw10)
              have zw10 := hw10.size
              clear hw10 HT HP1 HP2 bB pa pb pc pd qa qb qc qd
              have HT := HT'
              have HP1 := HP1'
              have HP2 := HP2'
              have bB := bw10
              clear HT' HP1' HP2' bw10
              obtain ⟨pa, pb, pc, pd, -⟩ := id HP1.out
              obtain ⟨qa, qb, qc, qd, -⟩ := id HP2.out
              go_wp2_with fail
              refine (C7.out _ HT.out).mono ?_
              rintro e w11 ⟨rfl, rfl⟩
              go_wp2
              go_ret
              exact ⟨rfl, bB⟩
          · have hl2 : ((putQ p v (putQ p v L)).length : Int) = (L.length : Int) := by rw [HT1.out, hg]; simp
            simp only [hl2] at c7
            have C7 := Lib.hid c7
            have HG := Lib.hid hg
            clear c7 hl2
            by_cases hqp : q = p
            · have tq : pfB (u q.a.hi) (u q.a.lo) q.a.v6 q.n (u p.a.hi) (u p.a.lo) p.a.v6 p.n = true := (pfEq_iff q p).2 hqp
              have HQP := Lib.hid hqp
              clear hqp
              go_wp2_with fail
              refine (C6.out).mono ?_
              rintro e w10 ⟨rfl, hw10⟩
              have bw10 := bB.trans (hw10.mono (by omega))
              have HT' := Lib.hid (HT.out.keep hw10)
              have HP1' := Lib.hid (HP1.out.keep hw10)
              have HP2' := Lib.hid (HP2.out.keep hw10)
              have zw10 := hw10.size
              clear hw10 HT HP1 HP2 bB pa pb pc pd qa qb qc qd
              have HT := HT'
              have HP1 := HP1'
              have HP2 := HP2'
              have bB := bw10
              clear HT' HP1' HP2' bw10
              obtain ⟨pa, pb, pc, pd, -⟩ := id HP1.out
              obtain ⟨qa, qb, qc, qd, -⟩ := id HP2.out
              go_wp2_with fail
              refine (C7.out _ HT.out).mono ?_
              rintro e w11 ⟨rfl, rfl⟩
              go_wp2
              go_ret
              exact ⟨rfl, bB⟩
            · have tq : pfB (u q.a.hi) (u q.a.lo) q.a.v6 q.n (u p.a.hi) (u p.a.lo) p.a.v6 p.n = false := by
                cases h : pfB (u q.a.hi) (u q.a.lo) q.a.v6 q.n (u p.a.hi) (u p.a.lo) p.a.v6 p.n
                · rfl
                · exact absurd ((pfEq_iff q p).1 h) hqp
              have c8 := C6.out
              rw [HT3.out hqp] at c8
              have C8 := Lib.hid c8
              have HQP := Lib.hid hqp
              clear hqp c8
              go_wp2_with fail
              refine (C8.out).mono ?_
              rintro e w10 ⟨rfl, hw10⟩
              have bw10 := bB.trans (hw10.mono (by omega))
              have HT' := Lib.hid (HT.out.keep hw10)
              have HP1' := Lib.hid (HP1.out.keep hw10)
              have HP2' := Lib.hid (HP2.out.keep hw10)
              have zw10 := hw10.size
              clear hw10 HT HP1 HP2 bB pa pb pc pd qa qb qc qd
              have HT := HT'
              have HP1 := HP1'
              have HP2 := HP2'
              have bB := bw10
              clear HT' HP1' HP2' bw10
              obtain ⟨pa, pb, pc, pd, -⟩ := id HP1.out
              obtain ⟨qa, qb, qc, qd, -⟩ := id HP2.out
              go_wp2_with fail
              refine (C7.out _ HT.out).mono ?_
              rintro e w11 ⟨rfl, rfl⟩
              go_wp2
              go_ret
              exact ⟨rfl, bB⟩

end Go.Proofs.Ytnmafhfjimagnaa

namespace Go.Proofs.Ytnmafhfjimagnaa
set_option maxRecDepth 100000
open Go.ChangeShapes Go.WideShapes Go.ChangeAt Go.RowKit Go.Joins Go.Deep

theorem add_plain' (g off j : Nat) : (⟨g, off, none⟩ : Addr).add j = ⟨g, off + j, none⟩ := by unfold Addr.add; split <;> simp_all
def nilAc : Ac := ⟨false, nilP, 0⟩
def pf4 (p : Pf) : List Value := [.int .u64 (u p.a.hi), .int .u64 (u p.a.lo), .bool p.a.v6, .int .i64 p.n]
/-- Prefixes that lie in memory, as a slice says. -/
def RdP (w : World) (A : Option Addr) (ls : List Pf) : Prop :=
  ls ≠ [] → ∃ g off, A = some ⟨g, off, none⟩ ∧ g < w.heap.size ∧ ∀ i, (h : i < ls.length) → w.cell? ⟨g, off + i * 4, none⟩ = some (.int .u64 (u ls[i].a.hi)) ∧ w.cell? ⟨g, off + i * 4 + 1, none⟩ = some (.int .u64 (u ls[i].a.lo)) ∧ w.cell? ⟨g, off + i * 4 + 2, none⟩ = some (.bool ls[i].a.v6) ∧ w.cell? ⟨g, off + i * 4 + 3, none⟩ = some (.int .i64 ls[i].n)
theorem ac_cells {H : Type} {enc : TypeId × Value → H} {W : World} {base n : Nat} {spare : Nat → Bool} {held : Bool} {cs : List Value} {x : DataW H × List MemPlace}
    (hl : cs.length = 6) (h : DataW.trod enc Try.prog W base spare held n 38 cs = some x) : ∃ r : Ac, cs = ac6 r := by
  match cs, hl with
  | [c, c0, c1, c2, c3, c4], _ =>
  obtain ⟨y, y0, y1, n, hx, _, h, h0, h1⟩ := trod_struct3 Try.underlying38 h
  have k0 : Try.prog.cellsOf 27 = 4 := by kernel_rfl
  have k1 : Try.prog.cellsOf 3 = 1 := by kernel_rfl
  have k3 : Try.prog.cellsOf 4 = 1 := by kernel_rfl
  have g : DataW.trod enc Try.prog W base spare held n 4 [c] = some y := by simpa [k3] using h
  have g0 : DataW.trod enc Try.prog W base spare held n 27 [c0, c1, c2, c3] = some y0 := by simpa [k0, k3] using h0
  have g1 : DataW.trod enc Try.prog W base spare held n 3 [c4] = some y1 := by simpa [k0, k1, k3] using h1
  obtain ⟨y2, y3, n2, _, _, h2, h3⟩ := trod_struct2 Try.underlying27 g0
  have k4 : Try.prog.cellsOf 25 = 3 := by kernel_rfl
  have g2 : DataW.trod enc Try.prog W base spare held n2 25 [c0, c1, c2] = some y2 := by simpa [k4] using h2
  have g3 : DataW.trod enc Try.prog W base spare held n2 3 [c3] = some y3 := by simpa [k1] using h3
  obtain ⟨z0, z1, z2, m, hz, _, i0, i1, i2⟩ := trod_struct3 Try.underlying25 g2
  have k2 : Try.prog.cellsOf 23 = 1 := by kernel_rfl
  have j0 : DataW.trod enc Try.prog W base spare held m 23 [c0] = some z0 := by simpa [k2] using i0
  have j1 : DataW.trod enc Try.prog W base spare held m 23 [c1] = some z1 := by simpa [k2] using i1
  have j2 : DataW.trod enc Try.prog W base spare held m 4 [c2] = some z2 := by simpa [k3] using i2
  obtain ⟨x, e, _⟩ := DataW.trod_bool Try.underlying4 g
  obtain ⟨x0, e0, _, w0⟩ := DataW.trod_int Try.underlying23 j0
  obtain ⟨x1, e1, _, w1⟩ := DataW.trod_int Try.underlying23 j1
  obtain ⟨x2, e2, _⟩ := DataW.trod_bool Try.underlying4 j2
  obtain ⟨x3, e3, _, w3⟩ := DataW.trod_int Try.underlying3 g3
  obtain ⟨x4, e4, _, w4⟩ := DataW.trod_int Try.underlying3 g1
  obtain ⟨lo0, hi0⟩ := bounds_u64 w0
  obtain ⟨lo1, hi1⟩ := bounds_u64 w1
  obtain ⟨a0, rfl⟩ := u_of x0 lo0 (by omega)
  obtain ⟨a1, rfl⟩ := u_of x1 lo1 (by omega)
  simp at e e0 e1 e2 e3 e4
  subst e e0 e1 e2 e3 e4
  exact ⟨⟨x, ⟨⟨a0, a1, x2⟩, x3⟩, x4⟩, rfl⟩
theorem open_acs {H : Type} {enc : TypeId × Value → H} {W : World} {base b0 : Nat} {spare : Nat → Bool} {held : Bool} {r : Reach} {v : Value} {d : DataW H} {p : List MemPlace}
    (hv : Value.okWide Try.prog W r b0 22 v) (h : DataW.Trod enc Try.prog W base spare held 22 v d p) (_ : ∀ b, spare b = true) :
    ∃ A c rs, v = .slice A (List.length rs) c ∧ RdA W A rs := by
  obtain ⟨A, len, cap, rfl⟩ := okWide_slice Try.underlying22 hv
  obtain ⟨fuel, hf⟩ := h
  have h5 : Try.prog.cellsOf 38 = 6 := by kernel_rfl
  rcases open_slice Try.underlying22 hf with ⟨hcs, _⟩ | ⟨a, l, c, m, n, D, Pl, hcs, _, hl, hm, hmm, _, hi⟩
  · simp [Value.cells] at hcs
    obtain ⟨rfl, rfl, rfl⟩ := hcs
    exact ⟨none, 0, [], rfl, fun h => absurd rfl h⟩
  · simp [Value.cells] at hcs
    obtain ⟨rfl, rfl, rfl⟩ := hcs
    have hlm : len ≤ m := by rw [hmm]; split <;> omega
    have key : ∀ i, i < len → ∃ r : Ac, ∀ j x, (ac6 r)[j]? = some x → W.cell? (a.add (i * 6 + j)) = some x := by
      intro i hlt
      obtain ⟨cs', hc, ht⟩ := hi i (by omega)
      rw [h5] at hc
      obtain ⟨_, hcl, hat⟩ := World.cells?_some hc
      obtain ⟨r, rfl⟩ := ac_cells hcl ht
      refine ⟨r, fun j x hx => ?_⟩
      have hj : j < 6 := by
        rcases Nat.lt_or_ge j 6 with h1 | h1
        · exact h1
        · rw [List.getElem?_eq_none (by simp [ac6]; omega)] at hx; cases hx
      rw [← Go.Deep.add_add, hat j hj, hx]
    have hch : ∃ f : Nat → Ac, ∀ i, i < len → ∀ j x, (ac6 (f i))[j]? = some x → W.cell? (a.add (i * 6 + j)) = some x :=
      ⟨fun i => if h : i < len then (key i h).choose else nilAc, fun i hlt j x hx => (key i hlt).choose_spec j x (by simpa [hlt] using hx)⟩
    obtain ⟨f, hf2⟩ := hch
    refine ⟨some a, cap, (List.range len).map f, by simp, fun hne => ?_⟩
    have hpos : 0 < len := by
      rcases Nat.eq_zero_or_pos len with h0 | h0
      · rw [h0] at hne; simp at hne
      · exact h0
    obtain ⟨g, off, spot⟩ := a
    have hspot : spot = none := by
      have := hf2 0 hpos 0 _ rfl
      rw [show 0 * 6 + 0 = 0 from rfl] at this
      simpa [Addr.add] using World.cell?_spot this
    subst hspot
    have hcell : ∀ i, i < len → ∀ j x, (ac6 (f i))[j]? = some x → W.cell? ⟨g, off + i * 6 + j, none⟩ = some x := fun i hlt j x hx => by
      have := hf2 i hlt j x hx
      rw [add_plain', ← Nat.add_assoc] at this
      exact this
    refine ⟨g, off, rfl, World.block_lt_of_cell? W ⟨g, off + 0 * 6 + 0, none⟩ (hcell 0 hpos 0 _ rfl), fun i hlt => ?_⟩
    have hlt' : i < len := by simpa using hlt
    have e : ((List.range len).map f)[i] = f i := by simp
    rw [e]
    exact ⟨hcell i hlt' 0 _ rfl, hcell i hlt' 1 _ rfl, hcell i hlt' 2 _ rfl, hcell i hlt' 3 _ rfl, hcell i hlt' 4 _ rfl, hcell i hlt' 5 _ rfl⟩
theorem pf_cells {H : Type} {enc : TypeId × Value → H} {W : World} {base n : Nat} {spare : Nat → Bool} {held : Bool} {cs : List Value} {x : DataW H × List MemPlace}
    (hl : cs.length = 4) (h : DataW.trod enc Try.prog W base spare held n 27 cs = some x) : ∃ r : Pf, cs = pf4 r := by
  match cs, hl with
  | [c0, c1, c2, c3], _ =>
  obtain ⟨y2, y3, n2, _, _, h2, h3⟩ := trod_struct2 Try.underlying27 h
  have k1 : Try.prog.cellsOf 3 = 1 := by kernel_rfl
  have k4 : Try.prog.cellsOf 25 = 3 := by kernel_rfl
  have g2 : DataW.trod enc Try.prog W base spare held n2 25 [c0, c1, c2] = some y2 := by simpa [k4] using h2
  have g3 : DataW.trod enc Try.prog W base spare held n2 3 [c3] = some y3 := by simpa [k1, k4] using h3
  obtain ⟨z0, z1, z2, m, hz, _, i0, i1, i2⟩ := trod_struct3 Try.underlying25 g2
  have k2 : Try.prog.cellsOf 23 = 1 := by kernel_rfl
  have k3 : Try.prog.cellsOf 4 = 1 := by kernel_rfl
  have j0 : DataW.trod enc Try.prog W base spare held m 23 [c0] = some z0 := by simpa [k2] using i0
  have j1 : DataW.trod enc Try.prog W base spare held m 23 [c1] = some z1 := by simpa [k2] using i1
  have j2 : DataW.trod enc Try.prog W base spare held m 4 [c2] = some z2 := by simpa [k3] using i2
  obtain ⟨x0, e0, _, w0⟩ := DataW.trod_int Try.underlying23 j0
  obtain ⟨x1, e1, _, w1⟩ := DataW.trod_int Try.underlying23 j1
  obtain ⟨x2, e2, _⟩ := DataW.trod_bool Try.underlying4 j2
  obtain ⟨x3, e3, _, w3⟩ := DataW.trod_int Try.underlying3 g3
  obtain ⟨lo0, hi0⟩ := bounds_u64 w0
  obtain ⟨lo1, hi1⟩ := bounds_u64 w1
  obtain ⟨a0, rfl⟩ := u_of x0 lo0 (by omega)
  obtain ⟨a1, rfl⟩ := u_of x1 lo1 (by omega)
  simp at e0 e1 e2 e3
  subst e0 e1 e2 e3
  exact ⟨⟨⟨a0, a1, x2⟩, x3⟩, rfl⟩
theorem open_pfs {H : Type} {enc : TypeId × Value → H} {W : World} {base b0 : Nat} {spare : Nat → Bool} {held : Bool} {r : Reach} {v : Value} {d : DataW H} {p : List MemPlace}
    (hv : Value.okWide Try.prog W r b0 64 v) (h : DataW.Trod enc Try.prog W base spare held 64 v d p) (_ : ∀ b, spare b = true) :
    ∃ A c rs, v = .slice A (List.length rs) c ∧ RdP W A rs := by
  obtain ⟨A, len, cap, rfl⟩ := okWide_slice Try.underlying64 hv
  obtain ⟨fuel, hf⟩ := h
  have h5 : Try.prog.cellsOf 27 = 4 := by kernel_rfl
  rcases open_slice Try.underlying64 hf with ⟨hcs, _⟩ | ⟨a, l, c, m, n, D, Pl, hcs, _, hl, hm, hmm, _, hi⟩
  · simp [Value.cells] at hcs
    obtain ⟨rfl, rfl, rfl⟩ := hcs
    exact ⟨none, 0, [], rfl, fun h => absurd rfl h⟩
  · simp [Value.cells] at hcs
    obtain ⟨rfl, rfl, rfl⟩ := hcs
    have hlm : len ≤ m := by rw [hmm]; split <;> omega
    have key : ∀ i, i < len → ∃ r : Pf, ∀ j x, (pf4 r)[j]? = some x → W.cell? (a.add (i * 4 + j)) = some x := by
      intro i hlt
      obtain ⟨cs', hc, ht⟩ := hi i (by omega)
      rw [h5] at hc
      obtain ⟨_, hcl, hat⟩ := World.cells?_some hc
      obtain ⟨r, rfl⟩ := pf_cells hcl ht
      refine ⟨r, fun j x hx => ?_⟩
      have hj : j < 4 := by
        rcases Nat.lt_or_ge j 4 with h1 | h1
        · exact h1
        · rw [List.getElem?_eq_none (by simp [pf4]; omega)] at hx; cases hx
      rw [← Go.Deep.add_add, hat j hj, hx]
    have hch : ∃ f : Nat → Pf, ∀ i, i < len → ∀ j x, (pf4 (f i))[j]? = some x → W.cell? (a.add (i * 4 + j)) = some x :=
      ⟨fun i => if h : i < len then (key i h).choose else nilP, fun i hlt j x hx => (key i hlt).choose_spec j x (by simpa [hlt] using hx)⟩
    obtain ⟨f, hf2⟩ := hch
    refine ⟨some a, cap, (List.range len).map f, by simp, fun hne => ?_⟩
    have hpos : 0 < len := by
      rcases Nat.eq_zero_or_pos len with h0 | h0
      · rw [h0] at hne; simp at hne
      · exact h0
    obtain ⟨g, off, spot⟩ := a
    have hspot : spot = none := by
      have := hf2 0 hpos 0 _ rfl
      rw [show 0 * 4 + 0 = 0 from rfl] at this
      simpa [Addr.add] using World.cell?_spot this
    subst hspot
    have hcell : ∀ i, i < len → ∀ j x, (pf4 (f i))[j]? = some x → W.cell? ⟨g, off + i * 4 + j, none⟩ = some x := fun i hlt j x hx => by
      have := hf2 i hlt j x hx
      rw [add_plain', ← Nat.add_assoc] at this
      exact this
    refine ⟨g, off, rfl, World.block_lt_of_cell? W ⟨g, off + 0 * 4 + 0, none⟩ (hcell 0 hpos 0 _ rfl), fun i hlt => ?_⟩
    have hlt' : i < len := by simpa using hlt
    have e : ((List.range len).map f)[i] = f i := by simp
    rw [e]
    exact ⟨hcell i hlt' 0 _ rfl, hcell i hlt' 1 _ rfl, hcell i hlt' 2 _ rfl, hcell i hlt' 3 _ rfl⟩

end Go.Proofs.Ytnmafhfjimagnaa

namespace Go.Proofs.Ytnmafhfjimagnaa
open Go.ChangeShapes Go.WideShapes Go.ChangeAt Go.RowKit

set_option maxRecDepth 100000 in
theorem triePut_lifted (os : Os) (started : os.Started) (H : Type) (enc : TypeId × Value → H) :
    ReturnsInHanded {} Try.checked os 9 .any (Rows.triePutSpec.pre6 enc Try.prog Try.f9 Rows.triePutRow.domain false) (Rows.triePutSpec.post enc Try.prog Try.f9 false true false false) := by
  refine returnsInHanded_of_change (C := Try.checked) own started (by kernel_rfl) Try.func9
    (ChangeSpec.witness6 (enc := enc) (C := Try.checked) false ⟨#[], #[.slice none 0 0, .agg #[.int .u64 0, .int .u64 0, .bool false, .int .i64 0], .int .i64 0, .agg #[.int .u64 0, .int .u64 0, .bool false, .int .i64 0]], []⟩ 8 (by kernel_rfl) (by kernel_rfl) (by kernel_rfl) (by kernel_rfl)) ?_
  intro W base args ds gs before hval0 hW hcnd _
  have hval : ∀ (j : Nat) t v, Try.f9.params[j]? = some t → args[j]? = some v → Value.okWide Try.prog W .any base t v := hval0
  have hW' := hW
  obtain ⟨p, q, hA0, hV, rfl, hfz, hnd⟩ := hW
  have hA : DataW.TrodAll enc Try.prog W 0 (fun _ => true) true Try.f9.params.toList args.toList ds p := hA0
  rw [Try.params9] at hA hval
  obtain ⟨v0, vs0, d0, ds0, p0, q0, hargs, rfl, rfl, h0, r0⟩ := trodAll_cons hA
  obtain ⟨v1, vs1, d1, ds1, p1, q1, rfl, rfl, rfl, h1, r1⟩ := trodAll_cons r0
  obtain ⟨v2, vs2, d2, ds2, p2, q2, rfl, rfl, rfl, h2, r2⟩ := trodAll_cons r1
  obtain ⟨v3, vs3, d3, ds3, p3, q3, rfl, rfl, rfl, h3, r3⟩ := trodAll_cons r2
  obtain ⟨rfl, rfl, rfl⟩ := trodAll_nil r3
  obtain rfl : args = #[v0, v1, v2, v3] := by cases args; simp_all
  obtain ⟨rfl, rfl⟩ := trodVars_none hV
  have lt0 : ∀ x ∈ p0, x.block < W.heap.size := by obtain ⟨m, hm⟩ := h0; exact DataW.trod_lt m _ _ _ hm
  obtain ⟨A0, cap0, l0, rfl, w0⟩ := open_acs (hval 0 22 v0 rfl rfl) h0 (fun _ => rfl)
  have lt1 : ∀ x ∈ p1, x.block < W.heap.size := by obtain ⟨m, hm⟩ := h1; exact DataW.trod_lt m _ _ _ hm
  obtain ⟨a1, rfl, w1⟩ := open_pf (hval 1 27 v1 rfl rfl) h1
  have lt2 : ∀ x ∈ p2, x.block < W.heap.size := by obtain ⟨m, hm⟩ := h2; exact DataW.trod_lt m _ _ _ hm
  have k2 := h2
  obtain ⟨a2, rfl, e2, f2, w2⟩ := open_int Try.underlying3 (hval 2 3 v2 rfl rfl) h2
  have lt3 : ∀ x ∈ p3, x.block < W.heap.size := by obtain ⟨m, hm⟩ := h3; exact DataW.trod_lt m _ _ _ hm
  obtain ⟨a3, rfl, w3⟩ := open_pf (hval 3 27 v3 rfl rfl) h3
  clear hA0 hval0
  refine (put_law A0 cap0 l0 a1 a2 a3 W w0).mono fun e W' ⟨he, bel⟩ => ?_
  subst he
  exact ⟨_, rfl, _, _, _, [], _, [], hW', trodAll_mk1 (shut_bool Try.underlying4 _), (trodAll_cons_mk (Below.trod laidOut (by kernel_rfl) (of_decide_eq_true (by kernel_rfl)) h0 bel lt0) (trodAll_cons_mk (Below.trod laidOut (by kernel_rfl) (of_decide_eq_true (by kernel_rfl)) h1 bel lt1) (trodAll_cons_mk (Below.trod laidOut (by kernel_rfl) (of_decide_eq_true (by kernel_rfl)) h2 bel lt2) (trodAll_cons_mk (Below.trod laidOut (by kernel_rfl) (of_decide_eq_true (by kernel_rfl)) h3 bel lt3) trodAll_mk0)))), rfl, bel.frame _, fun h => by cases h⟩

theorem triePut_holds : Rows.TriePutSaid :=
  OpenClaim.holds_of_wide 9 Try.f9 rfl rfl rfl rfl rfl rfl rfl ⟨rfl, rfl, rfl, rfl, rfl⟩ rfl rfl rfl rfl rfl (by kernel_rfl) Try.func9 (by kernel_rfl)
    (of_decide_eq_true (by kernel_rfl)) (by unfold Func.isWrapper; first | (rw [if_pos (by decide +kernel)]; kernel_rfl) | (rw [if_neg (by decide +kernel)]; exact ⟨rfl, rfl⟩))
    (fun os started H enc _ => triePut_lifted os started H enc)

end Go.Proofs.Ytnmafhfjimagnaa
