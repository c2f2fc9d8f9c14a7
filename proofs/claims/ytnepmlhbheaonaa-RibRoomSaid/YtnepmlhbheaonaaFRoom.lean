/-
  RibRoom: for every input the call returns true, and each argument reads afterwards as it read before. No condition.
-/
import Derived.Test.YtnepmlhbheaonaaF1
namespace Go.Proofs.Ytnepmlhbheaonaa
open Go.RowKit Go.Maps
set_option maxRecDepth 100000

set_option maxHeartbeats 8000000 in
theorem ribroom_law (n h : Int) (A : Option Addr) (cap : Nat) (ls : List Ac) (kk : Int) (w : World) (hr : RdA w A ls) :
    Calls Try.prog 5 #[.int .i64 n, .int .i64 h, .slice A ls.length cap, .int .i64 kk] w fun e w' => e = .returned (.bool true) ∧ Below w.heap.size w w' := by
  have HRD := Lib.hid hr
  clear hr
  by_cases hlen : 60 < ls.length
  · have t0 : decide ((60 : Int) < (ls.length : Int)) = true := by simp; omega
    go_enter Try.func5, Try.ntmps5
    go_wp2_with fail
    refine (awake6_any _).mono ?_
    rintro e w1 ⟨rfl, hw1⟩
    go_wp2
    go_ret
    exact ⟨rfl, hw1⟩
  · have t0 : decide ((60 : Int) < (ls.length : Int)) = false := by simp; omega
    go_enter Try.func5, Try.ntmps5
    go_wp2_with fail
    refine (awake6_any _).mono ?_
    rintro e w1 ⟨rfl, hw1⟩
    have z1 := hw1.size
    go_wp2_with fail
    refine (rib_new _ _ _).mono ?_
    rintro e w3 ⟨r, S3, rfl, hT3, hb3, hS3⟩
    have b3 : Below w.heap.size w w3 := hw1.trans (hb3.mono z1)
    have n3 : ∀ b, S3 b → w.heap.size ≤ b := fun b hb => by have := hS3 b hb; omega
    generalize clampN _ = n' at hT3
    generalize clampH _ = h' at hT3
    have z3 := b3.size
    have HR3 := Lib.hid hT3
    have HN3 := Lib.hid n3
    clear hT3 n3 hS3 hb3 hw1
    go_wp2_with fail
    go_loopw [11] (fun i wr => RPlayRel w w.heap.size r n' h' ls (fun _ => True) i wr) (fun i _ => ls.length - (intOf i).toNat)
    case atStart => exact ⟨0, S3, Nat.zero_le _, rfl, HR3.out, Nat.le_refl _, HN3.out, b3, z3, trivial⟩
    case round =>
      obtain ⟨k, S, hk, rfl, hR, hm, hN, hB, hz, -⟩ := hrel
      have HR6 := Lib.hid hR
      have HN := Lib.hid hN
      clear hR hN HR3 HN3
      have HR := HRD
      by_cases hlt : k < ls.length
      · obtain ⟨g, off, rfl, hg, hc⟩ := HR.out (by intro e; rw [e] at hlt; cases hlt)
        obtain ⟨c0, c1, c2, c3, c4, c5⟩ := hc k hlt
        have d0 := (hB.cell (p := ⟨g, off + k * 6, none⟩) hg).trans c0
        have d1 := (hB.cell (p := ⟨g, off + k * 6 + 1, none⟩) hg).trans c1
        have d2 := (hB.cell (p := ⟨g, off + k * 6 + 2, none⟩) hg).trans c2
        have d3 := (hB.cell (p := ⟨g, off + k * 6 + 3, none⟩) hg).trans c3
        have d4 := (hB.cell (p := ⟨g, off + k * 6 + 4, none⟩) hg).trans c4
        have d5 := (hB.cell (p := ⟨g, off + k * 6 + 5, none⟩) hg).trans c5
        clear c0 c1 c2 c3 c4 c5 hc
        obtain ⟨x, hx⟩ : ∃ x, ls[k] = x := ⟨_, rfl⟩
        rw [hx] at d0 d1 d2 d3 d4 d5
        have HXX := Lib.hid hx
        clear hx
        go_wp2_with fail
        refine (rdo_any HR6.out (by omega) x).mono ?_
        rintro e w6 ⟨⟨rfl, S6, g1, g2, g3⟩, g4⟩
        rw [← HXX.out] at g1 g4
        obtain ⟨r1, r2, r3, r4, r5, r6⟩ := rplay_next hlt HN.out hz (Nat.le_refl _) hB g1 g2 g3 g4 hm
        have R1 := Lib.hid r1
        have R3 := Lib.hid r3
        clear g1 g2 g3 g4 r1 r3 r6 d0 d1 d2 d3 d4 d5
        go_wp2
        go_roundw
        case rel => exact ⟨k + 1, S6, by omega, by go_num, R1.out, r2, R3.out, r4, r5, trivial⟩
        case measure => simp [intOf]; omega
      · have t1 : decide (k < ls.length) = false := by simp; omega
        have hM : (rplayK n' h' ls k).2 ≤ 20000 := by omega
        generalize (rplayK n' h' ls k).1 = L at HR6
        generalize (rplayK n' h' ls k).2 = M at HR6 hM
        have hs := HR6.out.srt
        have hI := HR6.out.inv
        have hll : L.length ≤ 4096 := by have := hI.few; have := hI.n0; omega
        have HS := Lib.hid hs
        have HI := Lib.hid hI
        have HLT := Lib.hid HR6.out.lt
        clear hs hI hm HR HRD b3 t0
        go_wp2_with fail
        refine (rib_dump HR6.out).mono ?_
        rintro e w4 ⟨v4, rfl, ho4, hw4⟩
        have b4 := hB.trans (hw4.mono hz)
        have HR4 := Lib.hid (HR6.out.keep hw4)
        have hnd : ∀ b, v4.ownBlock = some b → ¬ S b ∧ b < w4.heap.size := fun b hb => by
          obtain ⟨h1, h2⟩ := ho4.lt b hb
          exact ⟨fun e => by have := HLT.out b e; omega, h2⟩
        have HND := Lib.hid hnd
        have HO4 := Lib.hid ho4
        obtain ⟨A4, c4, rfl, -⟩ := own_val ho4
        have z4 := hw4.size
        clear ho4 hw4 hnd HR6 HLT hB
        rcases Nat.eq_zero_or_pos L.length with hl | hl
        · have hL0 : L = [] := List.eq_nil_of_length_eq_zero hl
          subst hL0
          go_wp2
          go_ret
          exact ⟨rfl, b4⟩
        · have t2 : ((L.length : Int) == 0) = false := by
            rw [beq_eq_false_iff_ne]
            omega
          obtain ⟨q, hq⟩ : ∃ q : Nat, bits .and .i64 kk 65535 = (q : Int) := ⟨(kk % 65536).toNat, by rw [i64_and16]; omega⟩
          have hj := Nat.mod_lt q hl
          have ht : ((q : Int)).tmod (L.length : Int) = ((q % L.length : Nat) : Int) := by rw [← Int.ofNat_tmod]
          obtain ⟨j, hjj⟩ : ∃ j, q % L.length = j := ⟨_, rfl⟩
          rw [hjj] at hj ht
          obtain ⟨g, cg, eg, -, zg, hcc⟩ := row_cell HO4.out rfl hj
          simp only [Value.slice.injEq, true_and] at eg
          obtain ⟨rfl, rfl⟩ := eg
          have m0 : w4.cell? ⟨g, j * 5, none⟩ = some (.int .u64 (u L[j].p.a.hi)) := hcc 0 (by omega)
          have m1 : w4.cell? ⟨g, j * 5 + 1, none⟩ = some (.int .u64 (u L[j].p.a.lo)) := hcc 1 (by omega)
          have m2 : w4.cell? ⟨g, j * 5 + 2, none⟩ = some (.bool L[j].p.a.v6) := hcc 2 (by omega)
          have m3 : w4.cell? ⟨g, j * 5 + 3, none⟩ = some (.int .i64 L[j].p.n) := hcc 3 (by omega)
          have m4 : w4.cell? ⟨g, j * 5 + 4, none⟩ = some (.int .i64 L[j].v) := hcc 4 (by omega)
          have hmem : L[j] ∈ L := List.getElem_mem hj
          obtain ⟨x, hx⟩ : ∃ x, L[j] = x := ⟨_, rfl⟩
          rw [hx] at m0 m1 m2 m3 m4 hmem
          have hpx := HS.out.1 x hmem
          have hkx := HI.out.hop x hmem
          obtain ⟨k1, k2⟩ := add_ok hpx hkx (put_same HS.out hmem) HI.out
          obtain ⟨k3, k4⟩ := add_ok hpx hkx (put_back HS.out hmem) HI.out
          have k5 : delE x.p L = 0 := by
            unfold delE
            rw [if_pos hpx, lk_some HS.out hmem]
            rfl
          have k6 : delQ x.p L = delL x.p L := by unfold delQ; rw [if_pos hpx]
          have k7 := del_len (p := x.p) HS.out
          rw [lk_some HS.out hmem] at k7
          simp only [Option.isSome_some, if_true] at k7
          have K1 := Lib.hid k1
          have K2 := Lib.hid k2
          have K3 := Lib.hid k3
          have K4 := Lib.hid k4
          have K5 := Lib.hid k5
          have K6 := Lib.hid k6
          have hgz : ¬ g = w4.heap.size := by omega
          clear hcc hx hjj k1 k2 k3 k4 k5 k6 hmem hpx hkx hl
          have j1 : (j : Int) < (L.length : Int) := by omega
          have cA := rib_add (HR4.out.keep (w' := w4.alloc (.cells #[.int .u64 (u x.p.a.hi), .int .u64 (u x.p.a.lo), .bool x.p.a.v6, .int .i64 x.p.n, .int .i64 x.v] 37)) (by go_grown)) (by omega) x.p x.v
          rw [K1.out, K2.out] at cA
          have CA := Lib.hid cA
          clear cA
          go_wp2_with fail
          refine CA.out.mono ?_
          rintro e w5 ⟨⟨rfl, S5, g1, g2, g3⟩, g4⟩
          have hs4 := HR4.out.lt
          have B4 : Beside (w4.alloc (.cells #[.int .u64 (u x.p.a.hi), .int .u64 (u x.p.a.lo), .bool x.p.a.v6, .int .i64 x.p.n, .int .i64 x.v] 37)) S w4.heap.size x wr.heap.size (.slice (some ⟨g, 0, none⟩) L.length c4) L := by
            refine ⟨⟨?_, ?_, ?_, ?_, ?_, ?_⟩, fun e => by have := hs4 _ e; omega, HO4.out.alloc _, fun b hb => ⟨(HND.out b hb).1, by have := (HND.out b hb).2; simp; omega⟩⟩
            all_goals first | (go_simp; done) | (go_simp <;> rfl) | go_size
          have hz4 : w.heap.size ≤ (w4.alloc (.cells #[.int .u64 (u x.p.a.hi), .int .u64 (u x.p.a.lo), .bool x.p.a.v6, .int .i64 x.p.n, .int .i64 x.v] 37)).heap.size := by simp; omega
          have HB5 := Lib.hid (B4.frm g2 g3)
          have HN5 := Lib.hid (ge_sub HN.out g3 hz4)
          have b5 : Below w.heap.size w w5 := Below.trans (by go_grown) (g2.below HN.out hz4)
          have HR5 := Lib.hid g1
          have z5 := b5.size
          have hM5 : addM n' h' L x.p x.v M ≤ 30000 := by omega
          generalize addM n' h' L x.p x.v M = M5 at HR5 hM5
          clear g1 g2 g3 g4 B4 hs4 hz4 m0 m1 m2 m3 m4 HR4 HO4 HND HN CA
          -- same
          go_wp2_with fail
          refine (rib_dump HR5.out).mono ?_
          rintro e w6 ⟨v6, rfl, ho6, hw6⟩
          have b6 := b5.trans (hw6.mono z5)
          have HR6 := Lib.hid (HR5.out.keep hw6)
          have HB6 := Lib.hid (HB5.out.keep hw6)
          have HO6 := Lib.hid ho6
          obtain ⟨A6, c6, rfl, -⟩ := own_val ho6
          have z6 := b6.size
          clear ho6 hw6 HR5 HB5
          go_wp2_with fail
          refine (rsame_yes _ _ _ _ L _ HB6.out.2.2.1 HO6.out (by omega)).mono ?_
          rintro e w7 ⟨rfl, hw7⟩
          have b7 := b6.trans (hw7.mono z6)
          have HR7 := Lib.hid (HR6.out.keep hw7)
          have HB7 := Lib.hid (HB6.out.keep hw7)
          have z7 := b7.size
          obtain ⟨qa, qb, qc, qg, qi, qz⟩ := id HB7.out.1
          clear hw7 HR6 HB6 HO6
          -- withdraw
          have cW := rib_withdraw HR7.out (by omega) x.p
          rw [K5.out, K6.out] at cW
          have CW := Lib.hid cW
          clear cW
          go_wp2_with fail
          refine CW.out.mono ?_
          rintro e w8 ⟨rfl, S8, g1, g2, g3⟩
          have HB8 := Lib.hid (HB7.out.frm g2 g3)
          have HN8 := Lib.hid (ge_sub HN5.out g3 z7)
          have b8 := b7.trans (g2.below HN5.out z7)
          have HR8 := Lib.hid g1
          have z8 := b8.size
          clear g1 g2 g3 HB7 HN5 HR7 CW qa qb qc qg qi qz
          -- less
          go_wp2_with fail
          refine (rib_dump HR8.out).mono ?_
          rintro e w9 ⟨v9, rfl, ho9, hw9⟩
          have b9 := b8.trans (hw9.mono z8)
          have HR9 := Lib.hid (HR8.out.keep hw9)
          have HB9 := Lib.hid (HB8.out.keep hw9)
          obtain ⟨A9, c9, rfl, -⟩ := own_val ho9
          have z9 := b9.size
          obtain ⟨qa, qb, qc, qg, qi, qz⟩ := id HB9.out.1
          clear ho9 hw9 HR8 HB8
          -- again
          have cG := rib_add HR9.out (by omega) x.p x.v
          rw [K3.out, K4.out] at cG
          have CG := Lib.hid cG
          clear cG
          go_wp2_with fail
          refine CG.out.mono ?_
          rintro e y0 ⟨⟨rfl, S0, g1, g2, g3⟩, g4⟩
          have HB0 := Lib.hid (HB9.out.frm g2 g3)
          have b0 := b9.trans (g2.below HN8.out z9)
          have HR0 := Lib.hid g1
          have z0 := b0.size
          have k8 : ((delL x.p L).length : Int) = (L.length : Int) - 1 := by omega
          have k9 : (((delL x.p L).length : Int) == (L.length : Int) - 1) = true := by rw [k8]; simp
          clear g1 g2 g3 g4 HB9 HN8 HR9 CG qa qb qc qg qi qz k7
          have K8 := Lib.hid k8
          clear k8
          go_wp2_with fail
          refine (rib_dump HR0.out).mono ?_
          rintro e y1 ⟨v1, rfl, ho1, hy1⟩
          have d1 := b0.trans (hy1.mono z0)
          have HB1 := Lib.hid (HB0.out.keep hy1)
          have HO1 := Lib.hid ho1
          obtain ⟨A1, c1, rfl, -⟩ := own_val ho1
          clear ho1 hy1 HR0 HB0
          go_wp2_with fail
          refine (rsame_yes _ _ _ _ L _ HB1.out.2.2.1 HO1.out (by omega)).mono ?_
          rintro e y2 ⟨rfl, hy2⟩
          have d2 := d1.trans (hy2.mono d1.size)
          clear hy2
          go_wp2
          go_ret
          exact ⟨rfl, d2⟩

end Go.Proofs.Ytnepmlhbheaonaa

namespace Go.Proofs.Ytnepmlhbheaonaa
open Go.ChangeShapes Go.WideShapes Go.ChangeAt Go.RowKit

set_option maxRecDepth 100000 in
theorem ribRoom_lifted (os : Os) (started : os.Started) (H : Type) (enc : TypeId × Value → H) :
    ReturnsInHanded {} Try.checked os 5 .any (Rows.ribRoomSpec.pre6 enc Try.prog Try.f5 Rows.ribRoomRow.domain false) (Rows.ribRoomSpec.post enc Try.prog Try.f5 false true false false) := by
  refine returnsInHanded_of_change (C := Try.checked) own started (by kernel_rfl) Try.func5
    (ChangeSpec.witness6 (enc := enc) (C := Try.checked) false ⟨#[], #[.int .i64 0, .int .i64 0, .slice none 0 0, .int .i64 0], []⟩ 8 (by kernel_rfl) (by kernel_rfl) (by kernel_rfl) (by kernel_rfl)) ?_
  intro W base args ds gs before hval0 hW hcnd _
  have hval : ∀ (j : Nat) t v, Try.f5.params[j]? = some t → args[j]? = some v → Value.okWide Try.prog W .any base t v := hval0
  have hW' := hW
  obtain ⟨p, q, hA0, hV, rfl, hfz, hnd⟩ := hW
  have hA : DataW.TrodAll enc Try.prog W 0 (fun _ => true) true Try.f5.params.toList args.toList ds p := hA0
  rw [Try.params5] at hA hval
  obtain ⟨v0, vs0, d0, ds0, p0, q0, hargs, rfl, rfl, h0, r0⟩ := trodAll_cons hA
  obtain ⟨v1, vs1, d1, ds1, p1, q1, rfl, rfl, rfl, h1, r1⟩ := trodAll_cons r0
  obtain ⟨v2, vs2, d2, ds2, p2, q2, rfl, rfl, rfl, h2, r2⟩ := trodAll_cons r1
  obtain ⟨v3, vs3, d3, ds3, p3, q3, rfl, rfl, rfl, h3, r3⟩ := trodAll_cons r2
  obtain ⟨rfl, rfl, rfl⟩ := trodAll_nil r3
  obtain rfl : args = #[v0, v1, v2, v3] := by cases args; simp_all
  obtain ⟨rfl, rfl⟩ := trodVars_none hV
  have lt0 : ∀ x ∈ p0, x.block < W.heap.size := by obtain ⟨m, hm⟩ := h0; exact DataW.trod_lt m _ _ _ hm
  have k0 := h0
  obtain ⟨a0, rfl, e0, f0, w0⟩ := open_int Try.underlying3 (hval 0 3 v0 rfl rfl) h0
  have lt1 : ∀ x ∈ p1, x.block < W.heap.size := by obtain ⟨m, hm⟩ := h1; exact DataW.trod_lt m _ _ _ hm
  have k1 := h1
  obtain ⟨a1, rfl, e1, f1, w1⟩ := open_int Try.underlying3 (hval 1 3 v1 rfl rfl) h1
  have lt2 : ∀ x ∈ p2, x.block < W.heap.size := by obtain ⟨m, hm⟩ := h2; exact DataW.trod_lt m _ _ _ hm
  obtain ⟨A2, cap2, l2, rfl, w2⟩ := open_acs6 (hval 2 50 v2 rfl rfl) h2 (fun _ => rfl)
  have lt3 : ∀ x ∈ p3, x.block < W.heap.size := by obtain ⟨m, hm⟩ := h3; exact DataW.trod_lt m _ _ _ hm
  have k3 := h3
  obtain ⟨a3, rfl, e3, f3, w3⟩ := open_int Try.underlying3 (hval 3 3 v3 rfl rfl) h3
  clear hA0 hval0
  refine (ribroom_law a0 a1 A2 cap2 l2 a3 W w2).mono fun e W' ⟨he, bel⟩ => ?_
  subst he
  exact ⟨_, rfl, _, _, _, [], _, [], hW', trodAll_mk1 (shut_bool Try.underlying4 _), (trodAll_cons_mk (Below.trod laidOut (by kernel_rfl) (of_decide_eq_true (by kernel_rfl)) h0 bel lt0) (trodAll_cons_mk (Below.trod laidOut (by kernel_rfl) (of_decide_eq_true (by kernel_rfl)) h1 bel lt1) (trodAll_cons_mk (Below.trod laidOut (by kernel_rfl) (of_decide_eq_true (by kernel_rfl)) h2 bel lt2) (trodAll_cons_mk (Below.trod laidOut (by kernel_rfl) (of_decide_eq_true (by kernel_rfl)) h3 bel lt3) trodAll_mk0)))), rfl, bel.frame _, fun h => by cases h⟩

theorem ribRoom_holds : Rows.RibRoomSaid :=
  OpenClaim.holds_of_wide 5 Try.f5 rfl rfl rfl rfl rfl rfl rfl ⟨rfl, rfl, rfl, rfl, rfl⟩ rfl rfl rfl rfl rfl (by kernel_rfl) Try.func5 (by kernel_rfl)
    (of_decide_eq_true (by kernel_rfl)) (by unfold Func.isWrapper; first | (rw [if_pos (by decide +kernel)]; kernel_rfl) | (rw [if_neg (by decide +kernel)]; exact ⟨rfl, rfl⟩))
    (fun os started H enc _ => ribRoom_lifted os started H enc)

end Go.Proofs.Ytnepmlhbheaonaa
