/-
  CoverMost: for every input the call returns true, and each argument reads afterwards as it read before. No condition.
-/
import Derived.Test.YthdnpilkkegniaaC1
import Derived.Test.YthdnpilkkegniaaH1
namespace Go.Proofs.Ythdnpilkkegniaa
open Go.RowKit Go.Maps
set_option maxRecDepth 100000


set_option maxHeartbeats 8000000 in
theorem covmost_law (A : Option Addr) (cap : Nat) (ls : List Pr) (p : Pf) (n : Int) (w : World) (hr : RdQ w A ls) :
    Calls Try.prog 10 #[.slice A ls.length cap, .agg #[.int .u64 (u p.a.hi), .int .u64 (u p.a.lo), .bool p.a.v6, .int .i64 p.n], .int .i64 n] w fun e w' => e = .returned (.bool true) ∧ Below w.heap.size w w' := by
  have HRD := Lib.hid hr
  clear hr
  by_cases hlen : 30 < ls.length
  · have t0 : decide ((30 : Int) < (ls.length : Int)) = true := by simp; omega
    go_enter Try.func10, Try.ntmps10
    go_wp2_with fail
    refine (awake8_any _).mono ?_
    rintro e w1 ⟨rfl, hw1⟩
    have b1 : Below w.heap.size w w1 := below_of (by go_grown) hw1
    go_wp2
    go_ret
    exact ⟨rfl, b1⟩
  · obtain ⟨K, hK, hK6⟩ : ∃ K : Nat, bits .and .i64 n 63 = (K : Int) ∧ K ≤ 63 := ⟨(n % 64).toNat, by rw [i64_and63]; omega, by omega⟩
    have t0 : decide ((30 : Int) < (ls.length : Int)) = false := by simp; omega
    go_enter Try.func10, Try.ntmps10
    go_wp2_with fail
    refine (awake8_any _).mono ?_
    rintro e w1 ⟨rfl, hw1⟩
    have b1 : Below w.heap.size w w1 := below_of (by go_grown) hw1
    have Hp1 : Hid (PBox w1 (w.heap.size) p) := Lib.hid (PBox.keep (by exact ⟨by go_simp <;> rfl, by go_simp <;> rfl, by go_simp <;> rfl, by go_simp <;> rfl, by go_simp <;> rfl, by go_simp <;> rfl, by go_simp <;> rfl, by go_simp <;> rfl, by go_size⟩) hw1)
    have v1 := Hp1.out.2.2.2.2.2.2.2.2
    clear hw1
    go_wp2_with fail
    refine (filled8_any A cap ls _ (HRD.out.keep b1 (Nat.le_refl _)) (by omega)).mono ?_
    rintro e w3 ⟨r, S, rfl, hR3, hm3, hS3, hb3⟩
    have Hp3 := Lib.hid (Hp1.out.keep hb3)
    have b3 := b1.trans (hb3.mono b1.size)
    have z1 := b1.size
    have z3 := b3.size
    have hs3 := hR3.srt
    have hL3 := fill_len ls ls.length (Nat.le_refl _)
    generalize (fillK ls ls.length).1 = L at hR3 hs3 hL3
    generalize (fillK ls ls.length).2 = M at hR3 hm3
    have HR3 := Lib.hid hR3
    have HSR := Lib.hid hs3
    clear hR3 hS3 hs3 hb3 HRD b1 t0 Hp1
    have hN := all_len (n := 30) (by omega) p (L := L)
    have hpl : (piecesL L p).length = (allB L p).length := by unfold piecesL; simp
    have ca := fun W (H : RibS W r S 200 200 L M) => pieces_any H p (K : Int)
    have cb := fun W (H : RibS W r S 200 200 L M) => pieces_any H p ((K : Int) + 1)
    have cc := fun W (H : RibS W r S 200 200 L M) => count_any H p (by omega)
    rw [clamp_nat K (by omega)] at ca
    rw [show (K : Int) + 1 = ((K + 1 : Nat) : Int) by omega, clamp_nat (K + 1) (by omega), ← show (K : Int) + 1 = ((K + 1 : Nat) : Int) by omega] at cb
    have e1 : ((piecesL L p).take (K + 1)).take ((piecesL L p).take K).length = (piecesL L p).take K := by
      rw [List.take_take, List.length_take]
      rw [show min (min K (piecesL L p).length) (K + 1) = min K (piecesL L p).length by omega]
      rcases Nat.le_total K (piecesL L p).length with h | h
      · rw [Nat.min_eq_left h]
      · rw [Nat.min_eq_right h, List.take_length, List.take_of_length_le h]
    have e2 : ((piecesL L p).take K).length = min K (allB L p).length := by rw [List.length_take, hpl]
    have e3 : ((piecesL L p).take (K + 1)).length = min (K + 1) (allB L p).length := by rw [List.length_take, hpl]
    generalize (piecesL L p).take K = la at ca e1 e2
    generalize (piecesL L p).take (K + 1) = lb at cb e1 e3
    generalize (allB L p).length = N at *
    have hd : decide (N ≤ K) = decide ((N : Int) ≤ (K : Int)) := by rw [Bool.eq_iff_iff, decide_eq_true_iff, decide_eq_true_iff]; omega
    rw [hd] at ca
    have HE1 := Lib.hid e1
    have E2 := Lib.hid e2
    have E3 := Lib.hid e3
    clear hd hpl e1 e2 e3 hL3 hm3
    have CA := Lib.hid ca
    have CB := Lib.hid cb
    have CC := Lib.hid cc
    clear ca cb cc
    obtain ⟨pa, pb, pc, pg, -, -, -, -, pz⟩ := id Hp3.out
    go_wp2_with fail
    refine (CA.out _ HR3.out).mono ?_
    rintro e w4 hq
    obtain ⟨Aa, ca, rfl, lea, noa, rda, -, hw⟩ := hq.rd
    have Ha4 := Lib.hid rda
    have HNa := Lib.hid noa
    clear hq rda noa
    have ee := hw
    have Hp4 := Lib.hid (Hp3.out.keep ee)
    have HR4 := Lib.hid (HR3.out.keep ee)
    have b4 := b3.trans (ee.mono b3.size)
    have z4 := b4.size
    have y4 := ee.size
    clear hw ee HR3 Hp3 pa pb pc pg pz
    obtain ⟨pa, pb, pc, pg, -, -, -, -, pz⟩ := id Hp4.out
    go_wp2_with fail
    refine (CC.out _ HR4.out).mono ?_
    rintro e w5 ⟨rfl, hw⟩
    have ee := hw
    have Hp5 := Lib.hid (Hp4.out.keep ee)
    have Ha5 := Lib.hid (Ha4.out.kept ee)
    have HR5 := Lib.hid (HR4.out.keep ee)
    have b5 := b4.trans (ee.mono b4.size)
    have z5 := b5.size
    have y5 := ee.size
    clear hw ee HR4 Hp4 Ha4 pa pb pc pg pz
    obtain ⟨pa, pb, pc, pg, -, -, -, -, pz⟩ := id Hp5.out
    go_wp2_with fail
    refine (CB.out _ HR5.out).mono ?_
    rintro e w6 hq
    obtain ⟨Ab, cb, rfl, leb, nob, rdb, -, hw⟩ := hq.rd
    have Hb6 := Lib.hid rdb
    have HNb := Lib.hid nob
    clear hq rdb nob
    have ee := hw
    have Hp6 := Lib.hid (Hp5.out.keep ee)
    have Ha6 := Lib.hid (Ha5.out.kept ee)
    have HR6 := Lib.hid (HR5.out.keep ee)
    have b6 := b5.trans (ee.mono b5.size)
    have z6 := b6.size
    have y6 := ee.size
    clear hw ee HR5 Hp5 Ha5 pa pb pc pg pz
    have hla : (la.length : Int) ≤ (lb.length : Int) := by have := E2.out; have := E3.out; omega
    have hlc : (la.length : Int) ≤ (cb : Int) := by omega
    have t1 : decide ((la.length : Int) ≤ (lb.length : Int)) = true := decide_eq_true hla
    have hsl : ∀ W : World, (Instr.slice 68 (.slice Ab lb.length cb) none (some (.int .i64 (la.length : Int))) none).run Try.prog W = .ok (.slice Ab la.length cb) W := fun W => by
      have := Kd.slice_to ty_piece Ab lb.length cb (la.length : Int) (by omega) (by omega) W
      simpa using this
    have ck := fun W (hb : Below w6.heap.size w6 W) => alike_any la Aa Ab ca cb W (Ha6.out.keep hb (Nat.le_refl _)) (by have := (Hb6.out.keep hb (Nat.le_refl _)).take la.length; rwa [HE1.out] at this) (by have := E2.out; omega)
    clear hla
    obtain ⟨W, rfl⟩ : ∃ W, W = w6 := ⟨_, rfl⟩
    have Z6 := Lib.hid z6
    have B6 := Lib.hid b6
    clear z6 b6 b5 b4 b3 z5 z4 z3 z1 y4 y5 y6 hN lea leb hlc
    rcases Nat.lt_trichotomy N K with h | h | h
    · skip
      have e9 : la.length = N := by have := E2.out; omega
      rw [e9] at ck hsl t1 ⊢
      have CK := Lib.hid ck
      have c1 : ¬ (K : Int) ≤ (N : Int) := by omega
      have c2 : (N : Int) < (K : Int) := by omega
      have t9 : N ≤ lb.length := by have := E3.out; omega
      clear ck e9
      go_wp2_with fail
      refine (CK.out _ (Below.refl _ _)).mono ?_
      rintro e V ⟨rfl, hx⟩
      go_wp2
      go_ret
      exact ⟨rfl, B6.out.trans (hx.mono Z6.out)⟩
    · subst h
      have e9 : la.length = N := by have := E2.out; omega
      rw [e9] at ck hsl t1 ⊢
      have CK := Lib.hid ck
      skip
      have t9 : N ≤ lb.length := by have := E3.out; omega
      clear ck e9
      go_wp2_with fail
      refine (CK.out _ (Below.refl _ _)).mono ?_
      rintro e V ⟨rfl, hx⟩
      go_wp2
      go_ret
      exact ⟨rfl, B6.out.trans (hx.mono Z6.out)⟩
    · skip
      have e9 : la.length = K := by have := E2.out; omega
      rw [e9] at ck hsl t1 ⊢
      have CK := Lib.hid ck
      have c1 : (K : Int) ≤ (N : Int) := by omega
      have c2 : ¬ (N : Int) < (K : Int) := by omega
      have c3 : ¬ (N : Int) ≤ (K : Int) := by omega
      have t9 : K ≤ lb.length := by have := E3.out; omega
      clear ck e9
      go_wp2_with fail
      refine (CK.out _ (Below.refl _ _)).mono ?_
      rintro e V ⟨rfl, hx⟩
      go_wp2
      go_ret
      exact ⟨rfl, B6.out.trans (hx.mono Z6.out)⟩

end Go.Proofs.Ythdnpilkkegniaa

namespace Go.Proofs.Ythdnpilkkegniaa
open Go.ChangeShapes Go.WideShapes Go.ChangeAt Go.RowKit

set_option maxRecDepth 100000 in
theorem coverMost_lifted (os : Os) (started : os.Started) (H : Type) (enc : TypeId × Value → H) :
    ReturnsInHanded {} Try.checked os 10 .any (Rows.coverMostSpec.pre6 enc Try.prog Try.f10 Rows.coverMostRow.domain false) (Rows.coverMostSpec.post enc Try.prog Try.f10 false true false false) := by
  refine returnsInHanded_of_change (C := Try.checked) own started (by kernel_rfl) Try.func10
    (ChangeSpec.witness6 (enc := enc) (C := Try.checked) false ⟨#[], #[.slice none 0 0, .agg #[.int .u64 0, .int .u64 0, .bool false, .int .i64 0], .int .i64 0], []⟩ 8 (by kernel_rfl) (by kernel_rfl) (by kernel_rfl) (by kernel_rfl)) ?_
  intro W base args ds gs before hval0 hW hcnd _
  have hval : ∀ (j : Nat) t v, Try.f10.params[j]? = some t → args[j]? = some v → Value.okWide Try.prog W .any base t v := hval0
  have hW' := hW
  obtain ⟨p, q, hA0, hV, rfl, hfz, hnd⟩ := hW
  have hA : DataW.TrodAll enc Try.prog W 0 (fun _ => true) true Try.f10.params.toList args.toList ds p := hA0
  rw [Try.params10] at hA hval
  obtain ⟨v0, vs0, d0, ds0, p0, q0, hargs, rfl, rfl, h0, r0⟩ := trodAll_cons hA
  obtain ⟨v1, vs1, d1, ds1, p1, q1, rfl, rfl, rfl, h1, r1⟩ := trodAll_cons r0
  obtain ⟨v2, vs2, d2, ds2, p2, q2, rfl, rfl, rfl, h2, r2⟩ := trodAll_cons r1
  obtain ⟨rfl, rfl, rfl⟩ := trodAll_nil r2
  obtain rfl : args = #[v0, v1, v2] := by cases args; simp_all
  obtain ⟨rfl, rfl⟩ := trodVars_none hV
  have lt0 : ∀ x ∈ p0, x.block < W.heap.size := by obtain ⟨m, hm⟩ := h0; exact DataW.trod_lt m _ _ _ hm
  obtain ⟨A0, cap0, l0, rfl, w0⟩ := open_prs (hval 0 50 v0 rfl rfl) h0 (fun _ => rfl)
  have lt1 : ∀ x ∈ p1, x.block < W.heap.size := by obtain ⟨m, hm⟩ := h1; exact DataW.trod_lt m _ _ _ hm
  obtain ⟨a1, rfl, w1⟩ := open_pf (hval 1 27 v1 rfl rfl) h1
  have lt2 : ∀ x ∈ p2, x.block < W.heap.size := by obtain ⟨m, hm⟩ := h2; exact DataW.trod_lt m _ _ _ hm
  have k2 := h2
  obtain ⟨a2, rfl, e2, f2, w2⟩ := open_int Try.underlying3 (hval 2 3 v2 rfl rfl) h2
  clear hA0 hval0
  refine (covmost_law A0 cap0 l0 a1 a2 W w0).mono fun e W' ⟨he, bel⟩ => ?_
  subst he
  exact ⟨_, rfl, _, _, _, [], _, [], hW', trodAll_mk1 (shut_bool Try.underlying4 _), (trodAll_cons_mk (Below.trod laidOut (by kernel_rfl) (of_decide_eq_true (by kernel_rfl)) h0 bel lt0) (trodAll_cons_mk (Below.trod laidOut (by kernel_rfl) (of_decide_eq_true (by kernel_rfl)) h1 bel lt1) (trodAll_cons_mk (Below.trod laidOut (by kernel_rfl) (of_decide_eq_true (by kernel_rfl)) h2 bel lt2) trodAll_mk0))), rfl, bel.frame _, fun h => by cases h⟩

theorem coverMost_holds : Rows.CoverMostSaid :=
  OpenClaim.holds_of_wide 10 Try.f10 rfl rfl rfl rfl rfl rfl rfl ⟨rfl, rfl, rfl, rfl, rfl⟩ rfl rfl rfl rfl rfl (by kernel_rfl) Try.func10 (by kernel_rfl)
    (of_decide_eq_true (by kernel_rfl)) (by unfold Func.isWrapper; first | (rw [if_pos (by decide +kernel)]; kernel_rfl) | (rw [if_neg (by decide +kernel)]; exact ⟨rfl, rfl⟩))
    (fun os started H enc _ => coverMost_lifted os started H enc)

end Go.Proofs.Ythdnpilkkegniaa
