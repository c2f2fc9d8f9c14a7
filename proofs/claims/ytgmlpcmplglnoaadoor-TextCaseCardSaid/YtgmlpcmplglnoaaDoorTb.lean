/-
  What text.Parse returns. Conditions: the library's tables hold what its text lays (Env), the text is shorter than the model's bound.
-/
import Derived.Test.YtgmlpcmplglnoaaDoorTa
import Derived.Test.YtgmlpcmplglnoaaDoorPg
import Derived.Test.YtgmlpcmplglnoaaDoorPbx
namespace Go.Proofs.YtgmlpcmplglnoaaDoor
open Go.RowKit
set_option maxRecDepth 100000

def pf0 : Pf := ⟨ad0, 0⟩
/-- A written prefix, and the error. -/
def parseP (l : List UInt8) : Pf × Int :=
  if (Lib.cut l [47]).2.2 = false then (pf0, 5) else match parseA (Lib.cut l [47]).1, numL 999 (Lib.cut l [47]).2.1 with
    | some a, some n => if psane ⟨a, n⟩ = true then (⟨a, n⟩, 0) else (pf0, 1)
    | _, _ => (pf0, 5)

theorem parseP_none1 {l : List UInt8} (h : (Lib.cut l [47]).2.2 = false) : parseP l = (pf0, 5) := if_pos h
theorem parseP_none2 {l : List UInt8} (h : (Lib.cut l [47]).2.2 = true) (h1 : parseA (Lib.cut l [47]).1 = none) : parseP l = (pf0, 5) := by
  unfold parseP
  rw [if_neg (by rw [h]; simp), h1]
theorem parseP_none3 {l : List UInt8} {a : Ad} (h : (Lib.cut l [47]).2.2 = true) (h1 : parseA (Lib.cut l [47]).1 = some a) (h2 : numL 999 (Lib.cut l [47]).2.1 = none) : parseP l = (pf0, 5) := by
  unfold parseP
  rw [if_neg (by rw [h]; simp), h1, h2]
theorem parseP_some {l : List UInt8} {a : Ad} {n : Int} (h : (Lib.cut l [47]).2.2 = true) (h1 : parseA (Lib.cut l [47]).1 = some a) (h2 : numL 999 (Lib.cut l [47]).2.1 = some n) : parseP l = if psane ⟨a, n⟩ = true then (⟨a, n⟩, 0) else (pf0, 1) := by
  unfold parseP
  rw [if_neg (by rw [h]; simp), h1, h2]

set_option maxHeartbeats 2000000 in
theorem parse_any (s : ByteArray) (w : World) (he : Env w) (hs : s.size < 4294967281) :
    Calls Tryd.prog 12 #[.string s] w fun e w' => e = .returned (.tuple #[.agg #[.int .u64 (u (parseP s.data.toList).1.a.hi), .int .u64 (u (parseP s.data.toList).1.a.lo), .bool (parseP s.data.toList).1.a.v6, .int .i64 (parseP s.data.toList).1.n], .int .i64 (parseP s.data.toList).2]) ∧ Below w.heap.size w w' := by
  have hlen : s.data.toList.length = s.size := by simp
  have hcl := cut_len s.data.toList [47]
  go_enter Tryd.func12, Tryd.ntmps12
  go_wp2_with fail
  generalize hW1 : World.alloc _ _ = W1
  have z1 : w.heap.size < W1.heap.size := by subst hW1; go_size
  have b1 : Below w.heap.size w W1 := by subst hW1; go_grown
  have e1 := he.go b1
  obtain ⟨pa, pb, pc, pg, pd, pe, pf, ph, pz⟩ : PBox W1 w.heap.size pf0 := by
    subst hW1
    refine ⟨?_, ?_, ?_, ?_, ?_, ?_, ?_, ?_, ?_⟩ <;> first | (go_simp; done) | (go_simp <;> rfl) | go_size
  clear hW1
  refine (cut_any s ⟨#[47]⟩ W1 e1 hs).mono ?_
  rintro e w2 ⟨rfl, hw2⟩
  have z2 := hw2.size
  have b2 := b1.trans (hw2.mono (Nat.le_of_lt z1))
  have e2 := e1.go hw2
  obtain ⟨qa, qb, qc, qg, qd, qe, qf, qh, qz⟩ := cells4 hw2 pz pa pb pc pg pd pe pf ph
  clear pa pb pc pg pd pe pf ph pz
  obtain ⟨cA, hcA⟩ : ∃ c, c = (Lib.cut s.data.toList [47]).1 := ⟨_, rfl⟩
  obtain ⟨cB, hcB⟩ : ∃ c, c = (Lib.cut s.data.toList [47]).2.1 := ⟨_, rfl⟩
  obtain ⟨cG, hcG⟩ : ∃ c, c = (Lib.cut s.data.toList [47]).2.2 := ⟨_, rfl⟩
  simp only [← hcA, ← hcB, ← hcG] at hcl ⊢
  have HA := Lib.hid hcA
  have HB := Lib.hid hcB
  have HG := Lib.hid hcG
  clear hcA hcB hcG
  cases cG with
  | false =>
    have HR := Lib.hid (parseP_none1 HG.out.symm)
    go_wp2
    refine bodyPost_ret (v := .tuple #[.agg #[.int .u64 0, .int .u64 0, .bool false, .int .i64 0], .int .i64 5]) (by simp [*, results, Tryd.results12, go_sem] <;> rfl) rfl ⟨by rw [HR.out]; rfl, ?_⟩
    go_grown
  | true =>
    have ca := parseAddr_any ⟨cA.toArray⟩ w2 e2 (by simp [ByteArray.size]; omega)
    rw [bl] at ca
    cases hA : parseA cA with
    | none =>
      have HR := Lib.hid (parseP_none2 HG.out.symm (by rw [← HA.out]; exact hA))
      rw [hA, show erA none = 5 from rfl] at ca
      clear hA
      go_wp2_with fail
      refine ca.mono ?_
      rintro e w3 ⟨rfl, hw3⟩
      have z3 := hw3.size
      have b3 := b2.trans (hw3.mono (by omega))
      obtain ⟨pa, pb, pc, pg, pd, pe, pf, ph, pz⟩ := cells4 hw3 qz qa qb qc qg qd qe qf qh
      clear qa qb qc qg qd qe qf qh qz ca
      go_wp2
      refine bodyPost_ret (v := .tuple #[.agg #[.int .u64 0, .int .u64 0, .bool false, .int .i64 0], .int .i64 5]) (by simp [*, results, Tryd.results12, go_sem] <;> rfl) rfl ⟨by rw [HR.out]; rfl, ?_⟩
      go_grown
    | some a =>
      rw [hA, show erA (some a) = 0 from rfl, Option.getD_some] at ca
      go_wp2_with fail
      refine ca.mono ?_
      rintro e w3 ⟨rfl, hw3⟩
      have z3 := hw3.size
      have b3 := b2.trans (hw3.mono (by omega))
      obtain ⟨pa, pb, pc, pg, pd, pe, pf, ph, pz⟩ := cells4 hw3 qz qa qb qc qg qd qe qf qh
      clear qa qb qc qg qd qe qf qh qz ca
      have HA1 := Lib.hid hA
      clear hA
      go_wp2_with fail
      generalize hW4 : World.alloc _ _ = W4
      have z4 : w3.heap.size < W4.heap.size := by subst hW4; go_size
      have b4 : Below w3.heap.size w3 W4 := by subst hW4; go_grown
      obtain ⟨ra, rb, rc, rd, re, rf, rz⟩ : Box W4 w3.heap.size a := by
        subst hW4
        refine ⟨?_, ?_, ?_, ?_, ?_, ?_, ?_⟩ <;> first | (go_simp; done) | (go_simp <;> rfl) | go_size
      clear hW4
      obtain ⟨qa, qb, qc, qg, qd, qe, qf, qh, qz⟩ := cells4 b4 pz pa pb pc pg pd pe pf ph
      clear pa pb pc pg pd pe pf ph pz
      have b4' := b3.trans (b4.mono (by omega))
      have cn := number_any ⟨cB.toArray⟩ 999 (by omega) (by omega) W4
      rw [bl] at cn
      cases hN : numL 999 cB with
      | none =>
        have HR := Lib.hid (parseP_none3 HG.out.symm (by rw [← HA.out]; exact HA1.out) (by rw [← HB.out]; exact hN))
        rw [hN] at cn
        clear hN
        refine cn.mono ?_
        rintro e w5 ⟨rfl, hw5⟩
        have z5 := hw5.size
        have b5 := b4'.trans (hw5.mono (by omega))
        obtain ⟨pa, pb, pc, pg, pd, pe, pf, ph, pz⟩ := cells4 hw5 qz qa qb qc qg qd qe qf qh
        clear qa qb qc qg qd qe qf qh qz cn
        go_wp2
        refine bodyPost_ret (v := .tuple #[.agg #[.int .u64 0, .int .u64 0, .bool false, .int .i64 0], .int .i64 5]) (by simp [*, results, Tryd.results12, go_sem] <;> rfl) rfl ⟨by rw [HR.out]; rfl, ?_⟩
        go_grown
      | some n =>
        have hR := parseP_some HG.out.symm (by rw [← HA.out]; exact HA1.out) (by rw [← HB.out]; exact hN)
        rw [hN] at cn
        refine cn.mono ?_
        rintro e w5 ⟨rfl, hw5⟩
        have z5 := hw5.size
        have b5 := b4'.trans (hw5.mono (by omega))
        obtain ⟨pa, pb, pc, pg, pd, pe, pf, ph, pz⟩ := cells4 hw5 qz qa qb qc qg qd qe qf qh
        obtain ⟨sa, sb, sc, sd, se, sf, sz⟩ := cells3 hw5 rz ra rb rc rd re rf
        clear qa qb qc qg qd qe qf qh qz cn ra rb rc rd re rf rz
        clear hN
        cases hP : psane ⟨a, n⟩ with
        | true =>
          rw [hP, if_pos rfl] at hR
          have HR := Lib.hid hR
          clear hR
          go_wp2_with fail
          generalize hW6 : World.alloc _ _ = W6
          have z6 : w5.heap.size < W6.heap.size := by subst hW6; go_size
          have b6 : Below w5.heap.size w5 W6 := by subst hW6; go_grown
          obtain ⟨ra, rb, rc, rg, rd, re, rf, rh, rz⟩ : PBox W6 w5.heap.size ⟨a, n⟩ := by
            subst hW6
            refine ⟨?_, ?_, ?_, ?_, ?_, ?_, ?_, ?_, ?_⟩ <;> first | (go_simp; done) | (go_simp <;> rfl) | go_size
          clear hW6
          obtain ⟨qa, qb, qc, qg, qd, qe, qf, qh, qz⟩ := cells4 b6 pz pa pb pc pg pd pe pf ph
          clear pa pb pc pg pd pe pf ph pz sa sb sc sd se sf sz
          have b6' := b5.trans (b6.mono (by omega))
          have cs := psane_any ⟨a, n⟩ W6
          rw [hP] at cs
          refine cs.mono ?_
          rintro e w7 ⟨rfl, hw7⟩
          have z7 := hw7.size
          have b7 := b6'.trans (hw7.mono (by omega))
          obtain ⟨pa, pb, pc, pg, pd, pe, pf, ph, pz⟩ := cells4 hw7 qz qa qb qc qg qd qe qf qh
          obtain ⟨sa, sb, sc, sg, sd, se, sf, sh, sz⟩ := cells4 hw7 rz ra rb rc rg rd re rf rh
          clear qa qb qc qg qd qe qf qh qz ra rb rc rg rd re rf rh rz cs hP
          go_wp2
          refine bodyPost_ret (v := .tuple #[.agg #[.int .u64 (u (⟨a, n⟩ : Pf).a.hi), .int .u64 (u (⟨a, n⟩ : Pf).a.lo), .bool (⟨a, n⟩ : Pf).a.v6, .int .i64 (⟨a, n⟩ : Pf).n], .int .i64 0]) (by simp [*, results, Tryd.results12, go_sem] <;> rfl) rfl ⟨by rw [HR.out], ?_⟩
          go_grown
        | false =>
          rw [hP, if_neg (by simp)] at hR
          have HR := Lib.hid hR
          clear hR
          go_wp2_with fail
          generalize hW6 : World.alloc _ _ = W6
          have z6 : w5.heap.size < W6.heap.size := by subst hW6; go_size
          have b6 : Below w5.heap.size w5 W6 := by subst hW6; go_grown
          clear hW6
          obtain ⟨qa, qb, qc, qg, qd, qe, qf, qh, qz⟩ := cells4 b6 pz pa pb pc pg pd pe pf ph
          clear pa pb pc pg pd pe pf ph pz sa sb sc sd se sf sz
          have b6' := b5.trans (b6.mono (by omega))
          have cs := psane_any ⟨a, n⟩ W6
          rw [hP] at cs
          refine cs.mono ?_
          rintro e w7 ⟨rfl, hw7⟩
          have z7 := hw7.size
          have b7 := b6'.trans (hw7.mono (by omega))
          obtain ⟨pa, pb, pc, pg, pd, pe, pf, ph, pz⟩ := cells4 hw7 qz qa qb qc qg qd qe qf qh
          clear qa qb qc qg qd qe qf qh qz cs hP
          go_wp2
          refine bodyPost_ret (v := .tuple #[.agg #[.int .u64 0, .int .u64 0, .bool false, .int .i64 0], .int .i64 1]) (by simp [*, results, Tryd.results12, go_sem] <;> rfl) rfl ⟨by rw [HR.out]; rfl, ?_⟩
          go_grown

end Go.Proofs.YtgmlpcmplglnoaaDoor
