/-
  CoverSqueezes: for every input the call returns true, and each argument reads afterwards as it read before. No condition.
-/
import Derived.Test.YtggceecolfebjaaY5
import Derived.Test.YtggceecolfebjaaY3
namespace Go.Proofs.Ytggceecolfebjaa
open Go.RowKit Go.Maps
set_option maxRecDepth 100000

theorem keep3Z {W w' : World} {b : Nat} {a : Ad} (h : Below W.heap.size W w') (hA : ABox W b a) : w'.cell? ⟨b, 0, none⟩ = some (.int .u64 (u a.hi)) ∧ w'.cell? ⟨b, 1, none⟩ = some (.int .u64 (u a.lo)) ∧ w'.cell? ⟨b, 2, none⟩ = some (.bool a.v6) ∧ Below W.heap.size W w' := by
  obtain ⟨c0, c1, c2, -⟩ := hA.keep h
  exact ⟨c0, c1, c2, h⟩
theorem keepXY {W w' : World} {bx by' : Nat} {x y : Pc} (h : Below W.heap.size W w') (hx : SBox W bx x) (hy : SBox W by' y) :
    w'.cell? ⟨bx, 0, none⟩ = some (.int .u64 (u x.p.a.hi)) ∧ w'.cell? ⟨bx, 1, none⟩ = some (.int .u64 (u x.p.a.lo)) ∧ w'.cell? ⟨bx, 2, none⟩ = some (.bool x.p.a.v6) ∧ w'.cell? ⟨bx, 3, none⟩ = some (.int .i64 x.p.n) ∧ w'.cell? ⟨bx, 4, none⟩ = some (.int .i64 x.h) ∧ w'.cell? ⟨bx, 5, none⟩ = some (.bool x.r) ∧
    w'.cell? ⟨by', 0, none⟩ = some (.int .u64 (u y.p.a.hi)) ∧ w'.cell? ⟨by', 1, none⟩ = some (.int .u64 (u y.p.a.lo)) ∧ w'.cell? ⟨by', 2, none⟩ = some (.bool y.p.a.v6) ∧ w'.cell? ⟨by', 3, none⟩ = some (.int .i64 y.p.n) ∧ w'.cell? ⟨by', 4, none⟩ = some (.int .i64 y.h) ∧ w'.cell? ⟨by', 5, none⟩ = some (.bool y.r) ∧ Below W.heap.size W w' := by
  obtain ⟨c0, c1, c2, c3, c4, c5, -⟩ := hx.keep h
  obtain ⟨d0, d1, d2, d3, d4, d5, -⟩ := hy.keep h
  exact ⟨c0, c1, c2, c3, c4, c5, d0, d1, d2, d3, d4, d5, h⟩
theorem row6_sbox {w : World} {b : Nat} {X : Pc} {E : TypeId} (h : w.heap[b]? = some (.cells #[.int .u64 (u X.p.a.hi), .int .u64 (u X.p.a.lo), .bool X.p.a.v6, .int .i64 X.p.n, .int .i64 X.h, .bool X.r] E (0, 0))) : SBox w b X :=
  ⟨by rw [cell_row h]; rfl, by rw [cell_row h]; rfl, by rw [cell_row h]; rfl, by rw [cell_row h]; rfl, by rw [cell_row h]; rfl, by rw [cell_row h]; rfl, lt_of_block h⟩
theorem rdb {w : World} {g : Nat} {E : TypeId} {X : Pc} (h : w.heap[g]? = some (.cells #[.int .u64 (u X.p.a.hi), .int .u64 (u X.p.a.lo), .bool X.p.a.v6, .int .i64 X.p.n, .int .i64 X.h, .bool X.r] E (0, 0))) : pcK.Rd w (some ⟨g, 0, none⟩) [X] := Kd.rd_block h
theorem rdn1 {w : World} {E : TypeId} {X : Pc} : pcK.Rd (w.alloc (.cells #[.int .u64 (u X.p.a.hi), .int .u64 (u X.p.a.lo), .bool X.p.a.v6, .int .i64 X.p.n, .int .i64 X.h, .bool X.r] E (0, 0))) (some ⟨w.heap.size, 0, none⟩) [X] := rdb (hp_new rfl)
theorem rdn2 {w : World} {E : TypeId} {X : Pc} {o : Obj} : pcK.Rd ((w.alloc (.cells #[.int .u64 (u X.p.a.hi), .int .u64 (u X.p.a.lo), .bool X.p.a.v6, .int .i64 X.p.n, .int .i64 X.h, .bool X.r] E (0, 0))).alloc o) (some ⟨w.heap.size, 0, none⟩) [X] := rdb (hp_old (by simp) (hp_new rfl))
theorem rdn3 {w : World} {E : TypeId} {X : Pc} {o : Obj} : pcK.Rd ((w.alloc o).alloc (.cells #[.int .u64 (u X.p.a.hi), .int .u64 (u X.p.a.lo), .bool X.p.a.v6, .int .i64 X.p.n, .int .i64 X.h, .bool X.r] E (0, 0))) (some ⟨w.heap.size + 1, 0, none⟩) [X] := rdb (hp_new (by simp))
theorem two_alloc {a w : World} {o1 o2 : Obj} (h : Below ((a.alloc o1).alloc o2).heap.size ((a.alloc o1).alloc o2) w) : w.heap[a.heap.size]? = some o1 ∧ w.heap[a.heap.size + 1]? = some o2 :=
  ⟨(h.block _ (by simp; omega)).trans (hp_old (by simp) (hp_new rfl)), (h.block _ (by simp)).trans (hp_new (by simp))⟩
set_option maxHeartbeats 8000000 in
theorem covsqz_law (A : Option Addr) (cap : Nat) (l : List Pc) (a : Ad) (w : World) (hr : pcK.Rd w A l ∧ (A = none → l.length = 0 ∧ cap = 0) ∧ l.length ≤ cap) :
    Calls Try.prog 4 #[.slice A l.length cap, .agg #[.int .u64 (u a.hi), .int .u64 (u a.lo), .bool a.v6]] w fun e w' => e = .returned (.bool true) ∧ Below w.heap.size w w' := by
  obtain ⟨hr, hA, hcap⟩ := hr
  have HR := Lib.hid hr
  have HA := Lib.hid hA
  clear hr hA hcap
  by_cases hlen : 100 < l.length
  · have t0 : decide ((100 : Int) < (l.length : Int)) = true := by simp; omega
    go_enter Try.func4, Try.ntmps4
    go_wp2_with fail
    refine (awake8_any _).mono ?_
    rintro e w1 ⟨rfl, hw1⟩
    have b1 : Below w.heap.size w w1 := below_of (by go_grown) hw1
    go_wp2
    go_ret
    exact ⟨rfl, b1⟩
  · have t0 : decide ((100 : Int) < (l.length : Int)) = false := by simp; omega
    have hl : l.length ≤ 100 := by omega
    have HL := Lib.hid hl
    obtain ⟨s, hs⟩ : ∃ s, sqz l = s := ⟨_, rfl⟩
    obtain ⟨ns, hns⟩ : ∃ ns, ns = s.length := ⟨_, rfl⟩
    have hsl : s.length ≤ 100 := by have := sqz_le l; rw [hs] at this; omega
    obtain ⟨X, hX⟩ : ∃ X, (atL l a).getD nilPc = X := ⟨_, rfl⟩
    obtain ⟨ok, hok⟩ : ∃ ok, (atL l a).isSome = ok := ⟨_, rfl⟩
    have co := fun W (h : pcK.Rd W A l) => ours_any A cap l W h (by omega)
    have cx := fun A c W (h : pcK.Rd W A l) => cat_any A c l a W h (by omega)
    have cy := fun W (h : pcK.Rd W A l) => kat_any A cap l a W h (by omega)
    unfold AtPost at cx cy
    rw [hX, hok] at cx cy
    have cq : ∀ A c W, pcK.Rd W A l → (A = none → l = [] ∧ c = 0) → Calls Try.prog 17 #[.slice A l.length c] W fun e w' => ∃ A' c', e = .returned (.slice A' ns c') ∧ pcK.Rd w' A' s ∧ Below W.heap.size W w' := fun A c W h hA => (sqz_walk A c l W h hA (by omega)).mono fun e w' hq => by
      rw [hs] at hq
      obtain ⟨A', c', rfl, -, -, hrd, hb⟩ := rowpc_rd hq
      exact ⟨A', c', by rw [hns], hrd, hb⟩
    have ck : ∀ W, pcK.Rd W A l → Calls Try.prog 18 #[.slice A l.length cap] W fun e w' => ∃ A' c', e = .returned (.slice A' ns c') ∧ pcK.Rd w' A' s ∧ Below W.heap.size W w' := fun W h => (ksqz_any A cap l W h HA.out (by omega)).mono fun e w' hq => by
      rw [hs] at hq
      obtain ⟨A', c', rfl, -, -, hrd, hb⟩ := rowrc_rd hq
      exact ⟨A', c', by rw [hns], hrd, hb⟩
    have ct : ∀ A n c (m : List Pc) W, n = m.length → m.length ≤ 100 → pcK.Rd W A m → Calls Try.prog 11 #[.slice A n c] W fun e w' => ∃ A' c', e = .returned (.slice A' n c') ∧ pcK.Rd w' A' m ∧ Below W.heap.size W w' := fun A n c m W hn hm h => by
      subst hn
      exact (theirs_any A c m W h (by omega)).mono fun e w' hq => by
        obtain ⟨A', c', rfl, -, -, hrd, hb⟩ := rowrc_rd hq
        exact ⟨A', c', rfl, hrd, hb⟩
    have ce : ∀ A B n c d (m : List Pc) W, n = m.length → m.length ≤ 100 → pcK.Rd W A m → pcK.Rd W B m → Calls Try.prog 10 #[.slice A n c, .slice B n d] W fun e w' => e = .returned (.bool true) ∧ Below W.heap.size W w' := fun A B n c d m W hn hm h k => by
      subst hn
      exact same8_any m A B c d W h k (by omega)
    have CO := Lib.hid co
    have CX := Lib.hid cx
    have CY := Lib.hid cy
    have CQ := Lib.hid cq
    have CK := Lib.hid ck
    have CT := Lib.hid ct
    have CE := Lib.hid ce
    have HNS := Lib.hid hns
    have HSL := Lib.hid hsl
    clear hs hns hsl hX hok co cx cy cq ck ct ce hl hlen
    go_enter Try.func4, Try.ntmps4
    go_wp2_with fail
    refine (awake8_any _).mono ?_
    rintro e w1 ⟨rfl, hw1⟩
    have b1 : Below w.heap.size w w1 := below_of (by go_grown) hw1
    have Ha1 : Hid (ABox w1 w.heap.size a) := Lib.hid (ABox.keep ⟨by go_simp <;> rfl, by go_simp <;> rfl, by go_simp <;> rfl, by go_size⟩ hw1)
    have HR1 := Lib.hid (HR.out.keep b1 (Nat.le_refl _))
    clear hw1 HR
    go_upto_region 4 with fail
    clear t0
    obtain ⟨W, rfl⟩ : ∃ W, W = w1 := ⟨_, rfl⟩
    go_cut [6, 7] (fun b s wx => s = .bool ok ∧ (∃ q, b = .pointer (some ⟨q, 0, none⟩) ∧ SBox wx q X) ∧ Below W.heap.size W wx)
    case first =>
      go_region_held3 (fun w' => w'.cell? ⟨w.heap.size, 0, none⟩ = some (.int .u64 (u a.hi)) ∧ w'.cell? ⟨w.heap.size, 1, none⟩ = some (.int .u64 (u a.lo)) ∧ w'.cell? ⟨w.heap.size, 2, none⟩ = some (.bool a.v6) ∧ Below W.heap.size W w')
        (first | with_reducible exact keep3Z hk5 Ha1.out | with_reducible exact keep3Z hk4 Ha1.out | (refine keep3Z ?_ Ha1.out; go_grown))
        (first
          | (go_at_call 15; refine (CO.out _ (HR1.out.keep (B := W.heap.size) (by go_grown) (Nat.le_refl _))).mono ?_; rintro e w4 hq4; obtain ⟨A4, c4, rfl, -, -, rd4, hw4⟩ := rowpc_rd hq4; have hk4 := below_of (w := W) (by go_grown) hw4; have zk4 := hk4.size; have RD4 := Lib.hid rd4; clear rd4 hq4; (try (have hy4 := (hw4.block W.heap.size (by simp)).trans (hp_new rfl); have zy4 := lt_of_block hy4)))
          | (go_at_call 14; refine (CX.out _ _ _ (RD4.out.keep (B := w4.heap.size) (by go_grown) (Nat.le_refl _))).mono ?_; rintro e w5 ⟨rfl, hw5⟩; have hk5 : Below W.heap.size W w5 := hk4.trans ((below_of (w := w4) (by go_grown) hw5).mono zk4); have zk5 := hk5.size; (try (have hy5 := (hw5.block W.heap.size zy4).trans hy4; obtain ⟨v0, v1, v2, v3, v4, v5, vf0, vf1, vf2, vf3, vf4, vf5, vz⟩ := six10 hy5)); (try (have hy5 := (hw5.block w4.heap.size (by simp)).trans (hp_new rfl); obtain ⟨v0, v1, v2, v3, v4, v5, vf0, vf1, vf2, vf3, vf4, vf5, vz⟩ := six10 hy5))))
      · go_wp2_with fail
        go_meet
        case rel => exact ⟨rfl, ⟨_, rfl, row6_sbox (hp_new rfl)⟩, hk5.alloc zk5 _⟩
      · go_wp2_with fail
        go_meet
        case rel => exact ⟨rfl, ⟨_, rfl, row6_sbox (row6_set hy5)⟩, below_put6 hk5 zk4⟩
      · go_wp2_with fail
        go_meet
        case rel => exact ⟨rfl, ⟨_, rfl, row6_sbox (row6_set hy5)⟩, below_put6 hk5 (Nat.le_refl _)⟩
    case rest =>
      obtain ⟨rfl, ⟨q, rfl, hxb⟩, hbc⟩ := hcut
      have Ha5 := Lib.hid (Ha1.out.keep hbc)
      have HRc := Lib.hid (HR1.out.keep (B := W.heap.size) hbc (Nat.le_refl _))
      have HX5 := Lib.hid hxb
      have b5 := b1.trans (hbc.mono b1.size)
      have z5 := b5.size
      clear hxb hbc Ha1 HR1 b1 CX
      obtain ⟨a0, a1, a2, az⟩ := id Ha5.out
      go_wp2_with fail
      refine (CY.out _ HRc.out).mono ?_
      rintro e w6 ⟨rfl, hw6⟩
      have HX6 := Lib.hid (HX5.out.keep hw6)
      have HR6 := Lib.hid (HRc.out.kept hw6)
      have b6 := b5.trans (hw6.mono z5)
      have z6 := b6.size
      clear hw6 Ha5 HRc HX5 b5 a0 a1 a2 az CY
      go_upto_region 6 with fail
      generalize hV : World.alloc _ _ = W7
      have e7 : Below w6.heap.size w6 W7 := by subst hV; go_grown
      have hy7 : SBox W7 w6.heap.size X := by subst hV; exact row6_sbox (hp_new rfl)
      have HX7 := Lib.hid (HX6.out.keep e7)
      have HY7 := Lib.hid hy7
      have HR7 := Lib.hid (HR6.out.kept e7)
      have b7 := b6.trans (e7.mono z6)
      have z7 := b7.size
      clear hV e7 hy7 HX6 HR6 b6
      obtain ⟨V7, rfl⟩ : ∃ V7, V7 = W7 := ⟨_, rfl⟩
      obtain ⟨x0, x1, x2, x3, x4, x5, xz⟩ := id HX7.out
      obtain ⟨y0, y1, y2, y3, y4, y5, yz⟩ := id HY7.out
      go_region_held3 (fun w' => w'.cell? ⟨q, 0, none⟩ = some (.int .u64 (u X.p.a.hi)) ∧ w'.cell? ⟨q, 1, none⟩ = some (.int .u64 (u X.p.a.lo)) ∧ w'.cell? ⟨q, 2, none⟩ = some (.bool X.p.a.v6) ∧ w'.cell? ⟨q, 3, none⟩ = some (.int .i64 X.p.n) ∧ w'.cell? ⟨q, 4, none⟩ = some (.int .i64 X.h) ∧ w'.cell? ⟨q, 5, none⟩ = some (.bool X.r) ∧
          w'.cell? ⟨w6.heap.size, 0, none⟩ = some (.int .u64 (u X.p.a.hi)) ∧ w'.cell? ⟨w6.heap.size, 1, none⟩ = some (.int .u64 (u X.p.a.lo)) ∧ w'.cell? ⟨w6.heap.size, 2, none⟩ = some (.bool X.p.a.v6) ∧ w'.cell? ⟨w6.heap.size, 3, none⟩ = some (.int .i64 X.p.n) ∧ w'.cell? ⟨w6.heap.size, 4, none⟩ = some (.int .i64 X.h) ∧ w'.cell? ⟨w6.heap.size, 5, none⟩ = some (.bool X.r) ∧ Below V7.heap.size V7 w')
        (first | with_reducible exact keepXY hkg HX7.out HY7.out | with_reducible exact keepXY hkf HX7.out HY7.out | with_reducible exact keepXY hke HX7.out HY7.out | with_reducible exact keepXY hkd HX7.out HY7.out | with_reducible exact keepXY hkc HX7.out HY7.out | with_reducible exact keepXY hkb HX7.out HY7.out | with_reducible exact keepXY hka HX7.out HY7.out | (refine keepXY ?_ HX7.out HY7.out; go_grown))
        (first
          | (go_at_call 15; refine (CO.out _ (HR7.out.kept (by go_grown))).mono ?_; rintro e wa hqa; obtain ⟨Aa, ca, rfl, -, nna, rda, hw⟩ := rowpc_rd hqa; have hka := below_of (w := V7) (by go_grown) hw; have RDa := Lib.hid rda; have NNa := Lib.hid nna; clear hqa rda nna hw)
          | (go_at_call 17; refine (CQ.out Aa ca _ RDa.out NNa.out).mono ?_; rintro e wb ⟨Ab, cb, rfl, rdb, hw⟩; have hkb := hka.trans (hw.mono hka.size); have RDb := Lib.hid rdb; clear rdb hw)
          | (go_at_call 11; have hk0 := hke; clear hk0; refine (CT.out (some ⟨_, 0, none⟩) 1 1 [X] _ rfl (by simp) ?_).mono ?_; (first | with_reducible exact rdn1 | with_reducible exact rdn2 | with_reducible exact rdn3); rintro e wf ⟨Af, cf, rfl, rdf, hw⟩; have hkf := hke.trans ((below_of (w := we) (by go_grown) hw).mono hke.size); have zkf := hkf.size; have RDf := Lib.hid rdf; (try (with_reducible have hff := two_alloc hw; have HFF := Lib.hid hff; clear hff)); clear rdf hw)
          | (go_at_call 11; refine (CT.out Ab ns cb s _ HNS.out HSL.out RDb.out).mono ?_; rintro e wc ⟨Ac, cc, rfl, rdc, hw⟩; have hkc := hkb.trans (hw.mono hkb.size); have RDc := Lib.hid rdc; clear rdc hw RDb)
          | (go_at_call 18; refine (CK.out _ (HR7.out.kept hkc)).mono ?_; rintro e wd ⟨Ad, cd, rfl, rdd, hw⟩; have hkd := hkc.trans (hw.mono hkc.size); have RDd := Lib.hid rdd; have RDcd := Lib.hid (RDc.out.kept hw); clear rdd hw)
          | (go_at_call 10; have hk0 := hkf; clear hk0; refine (CE.out Af (some ⟨_, 0, none⟩) 1 cf 1 [X] _ rfl (by simp) (RDf.out.kept (by go_grown)) ?_).mono ?_; (first | with_reducible exact rdn1 | with_reducible exact rdb HFF.out.1 | with_reducible exact rdb HFF.out.2); rintro e wg ⟨rfl, hw⟩; have hkg := hkf.trans ((below_of (w := wf) (by go_grown) hw).mono hkf.size); clear hw)
          | (go_at_call 10; refine (CE.out Ac Ad ns cc cd s _ HNS.out HSL.out RDcd.out RDd.out).mono ?_; rintro e we ⟨rfl, hw⟩; have hke := hkd.trans (hw.mono hkd.size); have zke := hke.size; clear hw RDcd))
      all_goals
        go_wp2
        go_ret
        exact ⟨rfl, b7.trans (hkg.mono z7)⟩

end Go.Proofs.Ytggceecolfebjaa

namespace Go.Proofs.Ytggceecolfebjaa
open Go.ChangeShapes Go.WideShapes Go.ChangeAt Go.RowKit

set_option maxRecDepth 100000 in
theorem coverSqueezes_lifted (os : Os) (started : os.Started) (H : Type) (enc : TypeId × Value → H) :
    ReturnsInHanded {} Try.checked os 4 .any (Rows.coverSqueezesSpec.pre6 enc Try.prog Try.f4 Rows.coverSqueezesRow.domain false) (Rows.coverSqueezesSpec.post enc Try.prog Try.f4 false true false false) := by
  refine returnsInHanded_of_change (C := Try.checked) own started (by kernel_rfl) Try.func4
    (ChangeSpec.witness6 (enc := enc) (C := Try.checked) false ⟨#[], #[.slice none 0 0, .agg #[.int .u64 0, .int .u64 0, .bool false]], []⟩ 8 (by kernel_rfl) (by kernel_rfl) (by kernel_rfl) (by kernel_rfl)) ?_
  intro W base args ds gs before hval0 hW hcnd _
  have hval : ∀ (j : Nat) t v, Try.f4.params[j]? = some t → args[j]? = some v → Value.okWide Try.prog W .any base t v := hval0
  have hW' := hW
  obtain ⟨p, q, hA0, hV, rfl, hfz, hnd⟩ := hW
  have hA : DataW.TrodAll enc Try.prog W 0 (fun _ => true) true Try.f4.params.toList args.toList ds p := hA0
  rw [Try.params4] at hA hval
  obtain ⟨v0, vs0, d0, ds0, p0, q0, hargs, rfl, rfl, h0, r0⟩ := trodAll_cons hA
  obtain ⟨v1, vs1, d1, ds1, p1, q1, rfl, rfl, rfl, h1, r1⟩ := trodAll_cons r0
  obtain ⟨rfl, rfl, rfl⟩ := trodAll_nil r1
  obtain rfl : args = #[v0, v1] := by cases args; simp_all
  obtain ⟨rfl, rfl⟩ := trodVars_none hV
  have lt0 : ∀ x ∈ p0, x.block < W.heap.size := by obtain ⟨m, hm⟩ := h0; exact DataW.trod_lt m _ _ _ hm
  obtain ⟨A0, cap0, l0, rfl, w0⟩ := open_pcs (hval 0 40 v0 rfl rfl) h0 (fun _ => rfl)
  have lt1 : ∀ x ∈ p1, x.block < W.heap.size := by obtain ⟨m, hm⟩ := h1; exact DataW.trod_lt m _ _ _ hm
  obtain ⟨a1, rfl⟩ := open_ad (hval 1 25 v1 rfl rfl) h1
  clear hA0 hval0
  refine (covsqz_law A0 cap0 l0 a1 W w0).mono fun e W' ⟨he, bel⟩ => ?_
  subst he
  exact ⟨_, rfl, _, _, _, [], _, [], hW', trodAll_mk1 (shut_bool Try.underlying4 _), (trodAll_cons_mk (Below.trod laidOut (by kernel_rfl) (of_decide_eq_true (by kernel_rfl)) h0 bel lt0) (trodAll_cons_mk (Below.trod laidOut (by kernel_rfl) (of_decide_eq_true (by kernel_rfl)) h1 bel lt1) trodAll_mk0)), rfl, bel.frame _, fun h => by cases h⟩

theorem coverSqueezes_holds : Rows.CoverSqueezesSaid :=
  OpenClaim.holds_of_wide 4 Try.f4 rfl rfl rfl rfl rfl rfl rfl ⟨rfl, rfl, rfl, rfl, rfl⟩ rfl rfl rfl rfl rfl (by kernel_rfl) Try.func4 (by kernel_rfl)
    (of_decide_eq_true (by kernel_rfl)) (by unfold Func.isWrapper; first | (rw [if_pos (by decide +kernel)]; kernel_rfl) | (rw [if_neg (by decide +kernel)]; exact ⟨rfl, rfl⟩))
    (fun os started H enc _ => coverSqueezes_lifted os started H enc)

end Go.Proofs.Ytggceecolfebjaa
