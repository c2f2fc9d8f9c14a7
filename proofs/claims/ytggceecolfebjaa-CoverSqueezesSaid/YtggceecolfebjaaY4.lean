/-
  What Squeeze of package cover returns. Condition: the pieces lie where the argument says.
-/
import Derived.Test.YtggceecolfebjaaY3
import Derived.ScopeJumps
import Derived.WalkMore
namespace Go.Proofs.Ytggceecolfebjaa
open Go.RowKit Go.Maps
set_option maxRecDepth 100000

theorem idx_piece (g n c k : Nat) (h : k < n) (V : World) : (Instr.indexAt 37 (.slice (some ⟨g, 0, none⟩) n c) (.int .i64 (k : Int))).run Try.prog V = .ok (.pointer (some ⟨g, k * 6, none⟩)) V := by
  have h0 : (0 : Int) ≤ (k : Int) := by omega
  have h1 : (k : Int) < (n : Int) := by omega
  go_simp
/-- What holds at the label. -/
def SqzI (w0 : World) (l0 m : List Pc) (A : Option Addr) (c : Nat) (w : World) : Prop := w.ownsRow w0.heap.size 49 pcK.k (.slice A m.length c) m.length (pcK.row m) ∧ sqz m = sqz l0 ∧ m.length ≤ l0.length ∧ Below w0.heap.size w0 w
def SqzJ (w0 : World) (l0 : List Pc) (a : Act) (w : World) : Prop := ∃ m A c, SqzI w0 l0 m A c w ∧ ∃ u1 u3 u4 u5 u6 u7 u8 u9 u10 u11 u12 u13 u14 u15 u16 u17 u18 u19 u20 u21 u22 u23 u24 u25 u26 u27 u28 u29 u30 u31 u32 u33 u34 u35 u36 : Value, a = { tmps := #[.slice A m.length c, u1, .slice none 0 0, u3, u4, u5, u6, u7, u8, u9, u10, u11, u12, u13, u14, u15, u16, u17, u18, u19, u20, u21, u22, u23, u24, u25, u26, u27, u28, u29, u30, u31, u32, u33, u34, u35, u36], defers := [] }
theorem sqz_lt {w0 w : World} {l0 m : List Pc} {A : Option Addr} {c : Nat} (h : SqzI w0 l0 m A c w) {i : Nat} (hi : i < m.length) : ∃ g, A = some ⟨g, 0, none⟩ ∧ w0.heap.size ≤ g ∧ PcR w g m := by
  rcases h.1.2 with ⟨-, h0⟩ | ⟨g, cap, cur, h1, h2, -⟩
  · omega
  · simp only [Value.slice.injEq, true_and] at h1
    obtain ⟨rfl, rfl⟩ := h1
    exact ⟨g, rfl, h2, PcR.of h.1 rfl⟩
theorem keep12 {W w' : World} {g k : Nat} {x y : Pc} (h : Below W.heap.size W w') (hx : EBox W g (k * 6) x) (hy : EBox W g ((k + 1) * 6) y) :
    w'.cell? ⟨g, k * 6, none⟩ = some (.int .u64 (u x.p.a.hi)) ∧ w'.cell? ⟨g, k * 6 + 1, none⟩ = some (.int .u64 (u x.p.a.lo)) ∧ w'.cell? ⟨g, k * 6 + 2, none⟩ = some (.bool x.p.a.v6) ∧ w'.cell? ⟨g, k * 6 + 3, none⟩ = some (.int .i64 x.p.n) ∧ w'.cell? ⟨g, k * 6 + 4, none⟩ = some (.int .i64 x.h) ∧ w'.cell? ⟨g, k * 6 + 5, none⟩ = some (.bool x.r) ∧
    w'.cell? ⟨g, (k + 1) * 6, none⟩ = some (.int .u64 (u y.p.a.hi)) ∧ w'.cell? ⟨g, (k + 1) * 6 + 1, none⟩ = some (.int .u64 (u y.p.a.lo)) ∧ w'.cell? ⟨g, (k + 1) * 6 + 2, none⟩ = some (.bool y.p.a.v6) ∧ w'.cell? ⟨g, (k + 1) * 6 + 3, none⟩ = some (.int .i64 y.p.n) ∧ w'.cell? ⟨g, (k + 1) * 6 + 4, none⟩ = some (.int .i64 y.h) ∧ w'.cell? ⟨g, (k + 1) * 6 + 5, none⟩ = some (.bool y.r) ∧ Below W.heap.size W w' := by
  obtain ⟨c0, c1, c2, c3, c4, c5, -⟩ := hx.keep h
  obtain ⟨d0, d1, d2, d3, d4, d5, -⟩ := hy.keep h
  exact ⟨c0, c1, c2, c3, c4, c5, d0, d1, d2, d3, d4, d5, h⟩

theorem y6_then {G : Prop} {W w1 : World} {b : Nat} {c0 c1 c2 c3 c4 c5 : Value} (hb : Below W.heap.size W w1) (hlt : b < W.heap.size) (h0 : W.cell? ⟨b, 0, none⟩ = some c0) (h1 : W.cell? ⟨b, 1, none⟩ = some c1) (h2 : W.cell? ⟨b, 2, none⟩ = some c2) (h3 : W.cell? ⟨b, 3, none⟩ = some c3) (h4 : W.cell? ⟨b, 4, none⟩ = some c4) (h5 : W.cell? ⟨b, 5, none⟩ = some c5)
    (f0 : W.frozen? ⟨b, 0, none⟩ = false) (f1 : W.frozen? ⟨b, 1, none⟩ = false) (f2 : W.frozen? ⟨b, 2, none⟩ = false) (f3 : W.frozen? ⟨b, 3, none⟩ = false) (f4 : W.frozen? ⟨b, 4, none⟩ = false) (f5 : W.frozen? ⟨b, 5, none⟩ = false)
    (k : w1.cell? ⟨b, 0, none⟩ = some c0 ∧ w1.cell? ⟨b, 1, none⟩ = some c1 ∧ w1.cell? ⟨b, 2, none⟩ = some c2 ∧ w1.cell? ⟨b, 3, none⟩ = some c3 ∧ w1.cell? ⟨b, 4, none⟩ = some c4 ∧ w1.cell? ⟨b, 5, none⟩ = some c5 ∧
      w1.frozen? ⟨b, 0, none⟩ = false ∧ w1.frozen? ⟨b, 1, none⟩ = false ∧ w1.frozen? ⟨b, 2, none⟩ = false ∧ w1.frozen? ⟨b, 3, none⟩ = false ∧ w1.frozen? ⟨b, 4, none⟩ = false ∧ w1.frozen? ⟨b, 5, none⟩ = false ∧ b < w1.heap.size → G) : G :=
  k ⟨(hb.cell (p := ⟨b, 0, none⟩) hlt).trans h0, (hb.cell (p := ⟨b, 1, none⟩) hlt).trans h1, (hb.cell (p := ⟨b, 2, none⟩) hlt).trans h2, (hb.cell (p := ⟨b, 3, none⟩) hlt).trans h3, (hb.cell (p := ⟨b, 4, none⟩) hlt).trans h4, (hb.cell (p := ⟨b, 5, none⟩) hlt).trans h5,
    (hb.frozen (p := ⟨b, 0, none⟩) hlt).trans f0, (hb.frozen (p := ⟨b, 1, none⟩) hlt).trans f1, (hb.frozen (p := ⟨b, 2, none⟩) hlt).trans f2, (hb.frozen (p := ⟨b, 3, none⟩) hlt).trans f3, (hb.frozen (p := ⟨b, 4, none⟩) hlt).trans f4, (hb.frozen (p := ⟨b, 5, none⟩) hlt).trans f5, Nat.lt_of_lt_of_le hlt hb.size⟩
theorem el_of {m : List Pc} {k : Nat} {x : Pc} (h : m[k]? = some x) : m[k]'((List.getElem?_eq_some_iff.1 h).1) = x := (List.getElem?_eq_some_iff.1 h).2
/-- The cells of a piece in a block. -/
def SBox (w : World) (b : Nat) (x : Pc) : Prop := w.cell? ⟨b, 0, none⟩ = some (.int .u64 (u x.p.a.hi)) ∧ w.cell? ⟨b, 1, none⟩ = some (.int .u64 (u x.p.a.lo)) ∧ w.cell? ⟨b, 2, none⟩ = some (.bool x.p.a.v6) ∧ w.cell? ⟨b, 3, none⟩ = some (.int .i64 x.p.n) ∧ w.cell? ⟨b, 4, none⟩ = some (.int .i64 x.h) ∧ w.cell? ⟨b, 5, none⟩ = some (.bool x.r) ∧ b < w.heap.size

set_option maxHeartbeats 8000000 in
theorem sqz_walk (A0 : Option Addr) (c0 : Nat) (l0 : List Pc) (w : World) (hr : pcK.Rd w A0 l0) (hA : A0 = none → l0 = [] ∧ c0 = 0) (hl : l0.length ≤ 100000) :
    Calls Try.prog 17 #[.slice A0 l0.length c0] w (RowPc w (sqz l0)) := by
  have HR := Lib.hid hr
  have HL := Lib.hid hl
  clear hr hl
  go_enter Try.func17, Try.ntmps17
  go_wp2
  refine wp_scope_jumps 0 (SqzJ w l0) (fun a' _ => match a'.tmps.getD 0 undef with | .slice _ n _ => n | _ => 0) rfl ?_ ?_
  · go_wp2_with fail
    refine (clone_any A0 c0 l0 w HR.out hA (by have := HL.out; omega)).mono ?_
    rintro e w1 ⟨A, c, rfl, ho, b1⟩
    have HI := Lib.hid (show SqzI w l0 l0 A c w1 from ⟨ho, rfl, Nat.le_refl _, b1⟩)
    clear ho b1 HR
    obtain ⟨m, hm⟩ : ∃ m, m = l0 := ⟨_, rfl⟩
    rw [show l0.length = m.length by rw [hm]]
    have HI := Lib.hid (show SqzI w l0 m A c w1 by rw [hm]; exact HI.out)
    clear hm
    have hm9 : (m.length : Int) - 1 ≤ 100000 := by have := HI.out.2.2.1; have := HL.out; omega
    have hm8 : -1 ≤ (m.length : Int) - 1 := by omega
    go_wp2
    go_step3
    go_wp2_with fail
    go_loopw [0, 11] (fun v i wr => v = .slice A m.length c ∧ ∃ k : Nat, i = .int .i64 k ∧ (k = 0 ∨ k + 1 ≤ m.length) ∧ Hid (∀ j, (h : j + 1 < m.length) → j < k → pairP m[j] m[j + 1] = false) ∧ Below w1.heap.size w1 wr) (fun _ i _ => m.length - (intOf i).toNat)
    case atStart => exact ⟨rfl, 0, rfl, .inl rfl, Lib.hid (fun j _ h => absurd h (Nat.not_lt_zero _)), Below.refl _ _⟩
    case round =>
      obtain ⟨rfl, k, rfl, hk, hno, hB⟩ := hrel
      by_cases hlt : k + 1 < m.length
      · have hlt' : decide ((k : Int) < (m.length : Int) - 1) = true := decide_eq_true (by omega)
        have hk9 : (k : Int) + 2 ≤ 200000 := by omega
        obtain ⟨W, rfl⟩ : ∃ W, W = wr := ⟨_, rfl⟩
        obtain ⟨g, rfl, hg, hP⟩ := sqz_lt HI.out (i := k) (by omega)
        have hP' := hP.keep hB
        obtain ⟨x, hx⟩ : ∃ x, m[k] = x := ⟨_, rfl⟩
        obtain ⟨y, hy⟩ : ∃ y, m[k + 1] = y := ⟨_, rfl⟩
        have hX : EBox W g (k * 6) x := by
          obtain ⟨c0, c1, c2, c3, c4, c5⟩ := hP'.2 k (by omega)
          rw [hx] at c0 c1 c2 c3 c4 c5
          exact ⟨c0, c1, c2, c3, c4, c5, hP'.1⟩
        have hY : EBox W g ((k + 1) * 6) y := by
          obtain ⟨c0, c1, c2, c3, c4, c5⟩ := hP'.2 (k + 1) hlt
          rw [hy] at c0 c1 c2 c3 c4 c5
          exact ⟨c0, c1, c2, c3, c4, c5, hP'.1⟩
        have HX := Lib.hid hX
        have HY := Lib.hid hY
        have cj := fun W => joined_any x y W
        unfold joinV at cj
        have HXX := Lib.hid (show m[k]? = some x by rw [List.getElem?_eq_getElem (by omega), hx])
        have HYY := Lib.hid (show m[k + 1]? = some y by rw [List.getElem?_eq_getElem hlt, hy])
        have HB := Lib.hid hB
        have HLT := Lib.hid hlt
        have HK := Lib.hid hk
        clear hP hP' hX hY hx hy hB hk hlt
        cases hpr : pairP x y
        · simp only [hpr, Bool.false_eq_true, if_false] at cj
          have CJ := Lib.hid cj
          have HPR := Lib.hid hpr
          clear cj hpr
          go_upto_region 5 with fail
          clear hlt'
          have hk1 := fun V => idx_piece g m.length c k (by have := HLT.out; omega) V
          have hk2 := fun V => idx_piece g m.length c (k + 1) HLT.out V
          rw [show ((k + 1 : Nat) : Int) = (k : Int) + 1 by omega] at hk2
          have hk0 : IntKind.i64.wrap ((k : Int) + 1) = (k : Int) + 1 := by rw [IntKind.wrap_i64]; omega
          go_cut [4, 5] (fun b s wx => s = .bool false ∧ (∃ q, b = .pointer (some ⟨q, 0, none⟩)) ∧ Below W.heap.size W wx)
          case first =>
            go_region_held3 (fun w' => w'.cell? ⟨g, k * 6, none⟩ = some (.int .u64 (u x.p.a.hi)) ∧ w'.cell? ⟨g, k * 6 + 1, none⟩ = some (.int .u64 (u x.p.a.lo)) ∧ w'.cell? ⟨g, k * 6 + 2, none⟩ = some (.bool x.p.a.v6) ∧ w'.cell? ⟨g, k * 6 + 3, none⟩ = some (.int .i64 x.p.n) ∧ w'.cell? ⟨g, k * 6 + 4, none⟩ = some (.int .i64 x.h) ∧ w'.cell? ⟨g, k * 6 + 5, none⟩ = some (.bool x.r) ∧ w'.cell? ⟨g, (k + 1) * 6, none⟩ = some (.int .u64 (u y.p.a.hi)) ∧ w'.cell? ⟨g, (k + 1) * 6 + 1, none⟩ = some (.int .u64 (u y.p.a.lo)) ∧ w'.cell? ⟨g, (k + 1) * 6 + 2, none⟩ = some (.bool y.p.a.v6) ∧ w'.cell? ⟨g, (k + 1) * 6 + 3, none⟩ = some (.int .i64 y.p.n) ∧ w'.cell? ⟨g, (k + 1) * 6 + 4, none⟩ = some (.int .i64 y.h) ∧ w'.cell? ⟨g, (k + 1) * 6 + 5, none⟩ = some (.bool y.r) ∧ Below W.heap.size W w')
              (first | exact keep12 hk5 HX.out HY.out | (refine keep12 ?_ HX.out HY.out; go_grown))
              ((go_at_call 35; refine (CJ.out _).mono ?_; rintro e w5 ⟨rfl, hw5⟩; have hk5 := below_of (w := W) (by go_grown) hw5; have zk5 := hk5.size; (try (refine y6_then (b := W.heap.size) (c0 := .int .u64 0) (c1 := .int .u64 0) (c2 := .bool false) (c3 := .int .i64 0) (c4 := .int .i64 0) (c5 := .bool false) hw5 ?_ ?_ ?_ ?_ ?_ ?_ ?_ ?_ ?_ ?_ ?_ ?_ ?_ (fun y4 => ?_); go_size; go_simp; go_simp; go_simp; go_simp; go_simp; go_simp; go_simp; go_simp; go_simp; go_simp; go_simp; go_simp; obtain ⟨ya, yb, yc, yg, yi, yk, yd, ye, yf, yh, yj, yl, yz⟩ := y4))))
            all_goals (go_wp2_with fail; go_meet)
            all_goals exact ⟨rfl, ⟨_, rfl⟩, by go_grown⟩
          case rest =>
            obtain ⟨rfl, ⟨q, rfl⟩, hbc⟩ := hcut
            clear hk1 hk2 hk0
            go_wp2
            go_roundw
            case rel => exact ⟨rfl, k + 1, by go_num, .inr (by have := HLT.out; omega), Lib.hid (fun j h hj => by
              rcases Nat.lt_or_eq_of_le (Nat.le_of_lt_succ hj) with e | e
              · exact hno.out j h e
              · subst e
                rw [el_of HXX.out, el_of HYY.out]
                exact HPR.out), HB.out.trans (hbc.mono HB.out.size)⟩
            case measure => simp [intOf]; have := HLT.out; omega
        · simp only [hpr, if_true] at cj
          have CJ := Lib.hid cj
          have HPR := Lib.hid hpr
          clear cj hpr
          go_upto_region 5 with fail
          clear hlt'
          have hk1 := fun V => idx_piece g m.length c k (by have := HLT.out; omega) V
          have hk2 := fun V => idx_piece g m.length c (k + 1) HLT.out V
          rw [show ((k + 1 : Nat) : Int) = (k : Int) + 1 by omega] at hk2
          have hk0 : IntKind.i64.wrap ((k : Int) + 1) = (k : Int) + 1 := by rw [IntKind.wrap_i64]; omega
          go_cut [4, 5] (fun b s wx => s = .bool true ∧ (∃ q, b = .pointer (some ⟨q, 0, none⟩) ∧ W.heap.size ≤ q ∧ SBox wx q (upP x)) ∧ Below W.heap.size W wx)
          case first =>
            go_region_held3 (fun w' => w'.cell? ⟨g, k * 6, none⟩ = some (.int .u64 (u x.p.a.hi)) ∧ w'.cell? ⟨g, k * 6 + 1, none⟩ = some (.int .u64 (u x.p.a.lo)) ∧ w'.cell? ⟨g, k * 6 + 2, none⟩ = some (.bool x.p.a.v6) ∧ w'.cell? ⟨g, k * 6 + 3, none⟩ = some (.int .i64 x.p.n) ∧ w'.cell? ⟨g, k * 6 + 4, none⟩ = some (.int .i64 x.h) ∧ w'.cell? ⟨g, k * 6 + 5, none⟩ = some (.bool x.r) ∧ w'.cell? ⟨g, (k + 1) * 6, none⟩ = some (.int .u64 (u y.p.a.hi)) ∧ w'.cell? ⟨g, (k + 1) * 6 + 1, none⟩ = some (.int .u64 (u y.p.a.lo)) ∧ w'.cell? ⟨g, (k + 1) * 6 + 2, none⟩ = some (.bool y.p.a.v6) ∧ w'.cell? ⟨g, (k + 1) * 6 + 3, none⟩ = some (.int .i64 y.p.n) ∧ w'.cell? ⟨g, (k + 1) * 6 + 4, none⟩ = some (.int .i64 y.h) ∧ w'.cell? ⟨g, (k + 1) * 6 + 5, none⟩ = some (.bool y.r) ∧ Below W.heap.size W w')
              (first | exact keep12 hk5 HX.out HY.out | (refine keep12 ?_ HX.out HY.out; go_grown))
              ((go_at_call 35; refine (CJ.out _).mono ?_; rintro e w5 ⟨rfl, hw5⟩; have hk5 := below_of (w := W) (by go_grown) hw5; have zk5 := hk5.size; (try (refine y6_then (b := W.heap.size) (c0 := .int .u64 0) (c1 := .int .u64 0) (c2 := .bool false) (c3 := .int .i64 0) (c4 := .int .i64 0) (c5 := .bool false) hw5 ?_ ?_ ?_ ?_ ?_ ?_ ?_ ?_ ?_ ?_ ?_ ?_ ?_ (fun y4 => ?_); go_size; go_simp; go_simp; go_simp; go_simp; go_simp; go_simp; go_simp; go_simp; go_simp; go_simp; go_simp; go_simp; obtain ⟨ya, yb, yc, yg, yi, yk, yd, ye, yf, yh, yj, yl, yz⟩ := y4))))
            all_goals (go_wp2_with fail; go_meet)
            all_goals
              refine ⟨rfl, ⟨_, rfl, ?_, ?_, ?_, ?_, ?_, ?_, ?_, ?_⟩, by go_grown⟩
              all_goals first | (go_simp; done) | (go_simp <;> rfl) | go_size | omega
          case rest =>
            obtain ⟨rfl, ⟨q, rfl, hq, s0, s1, s2, s3, s4, s5, sz⟩, hbc⟩ := hcut
            clear hk1 hk2 hk0
            have hb9 := HB.out.trans (hbc.mono HB.out.size)
            have ho9 := own_block HI.out.1 (fun b _ hl => hb9.block b hl)
            have HO := Lib.hid ho9
            have HB9 := Lib.hid hb9
            clear ho9 hb9 hbc
            obtain ⟨X, hXX⟩ : ∃ X, upP x = X := ⟨_, rfl⟩
            rw [hXX] at s0 s1 s2 s3 s4 s5
            have HUP := Lib.hid hXX
            clear hXX
            obtain ⟨W9, rfl⟩ : ∃ W9, W9 = wc := ⟨_, rfl⟩
            go_wp2_with fail
            refine (replace_any (base := w.heap.size) (i := k) X W9.heap.size (own_block HO.out (fun b _ hl => Below.block (B := W9.heap.size) (w := W9) (by go_grown) b hl)) (hp_new rfl) (by have := HLT.out; omega) (by have := HI.out.2.2.1; have := HL.out; omega)).mono ?_
            rintro e w9 ⟨rfl, ho, hb⟩
            have hone : oneL m = some (repL m k X) := by
              have := oneL_at (l := m) k (fun j h hj => hno.out j h hj) HLT.out (by rw [el_of HXX.out, el_of HYY.out]; exact HPR.out)
              rw [this, el_of HXX.out, HUP.out]
              rfl
            have hlen := repl_len (show k + 2 ≤ m.length by have := HLT.out; omega) X
            have hI9 : SqzI w l0 (repL m k X) (some ⟨g, 0, none⟩) c w9 := by
              refine ⟨by rw [hlen]; exact ho, (sqz_some hone).symm.trans HI.out.2.1, by have := HI.out.2.2.1; omega, ?_⟩
              have z1 := HI.out.2.2.2.size
              exact (HI.out.2.2.2.trans (HB9.out.mono z1)).trans (Below.trans (by first | (have := HB9.out.size; go_grown; done) | exact Below.alloc (Below.refl _ _) (by have := HB9.out.size; omega) _) hb)
            have HI9 := Lib.hid hI9
            have HLEN := Lib.hid hlen
            clear ho hb hone hlen hI9 s0 s1 s2 s3 s4 s5
            go_wp2
            go_step3
            exact ⟨rfl, repL m k X, some ⟨g, 0, none⟩, c, HI9.out, _, _, _, _, _, _, _, _, _, _, _, _, _, _, _, _, _, _, _, _, _, _, _, _, _, _, _, _, _, _, _, _, _, _, _, by rw [HLEN.out]⟩
      · have hend : sqz l0 = m := by
          rw [← HI.out.2.1]
          exact sqz_none (oneL_no fun j hj => hno.out j hj (by omega))
        have hlt' : decide ((k : Int) < (m.length : Int) - 1) = false := decide_eq_false (by omega)
        have HE := Lib.hid hend
        have HB := Lib.hid hB
        clear hend hB
        go_wp2
        simp only [Exit.jump]
        go_ret
        rw [HE.out]
        exact ⟨A, c, rfl, own_block HI.out.1 (fun b _ hl => HB.out.block b hl), HI.out.2.2.2.trans (HB.out.mono HI.out.2.2.2.size)⟩
  · rintro a' w' ⟨m, A, c, hI, u1, u3, u4, u5, u6, u7, u8, u9, u10, u11, u12, u13, u14, u15, u16, u17, u18, u19, u20, u21, u22, u23, u24, u25, u26, u27, u28, u29, u30, u31, u32, u33, u34, u35, u36, rfl⟩
    obtain ⟨w1, rfl⟩ : ∃ w1, w1 = w' := ⟨_, rfl⟩
    have HI := Lib.hid hI
    clear hI
    have hm9 : (m.length : Int) - 1 ≤ 100000 := by have := HI.out.2.2.1; have := HL.out; omega
    have hm8 : -1 ≤ (m.length : Int) - 1 := by omega
    go_wp2_with fail
    go_loopw [0, 11] (fun v i wr => v = .slice A m.length c ∧ ∃ k : Nat, i = .int .i64 k ∧ (k = 0 ∨ k + 1 ≤ m.length) ∧ Hid (∀ j, (h : j + 1 < m.length) → j < k → pairP m[j] m[j + 1] = false) ∧ Below w1.heap.size w1 wr) (fun _ i _ => m.length - (intOf i).toNat)
    case atStart => exact ⟨rfl, 0, rfl, .inl rfl, Lib.hid (fun j _ h => absurd h (Nat.not_lt_zero _)), Below.refl _ _⟩
    case round =>
      obtain ⟨rfl, k, rfl, hk, hno, hB⟩ := hrel
      by_cases hlt : k + 1 < m.length
      · have hlt' : decide ((k : Int) < (m.length : Int) - 1) = true := decide_eq_true (by omega)
        have hk9 : (k : Int) + 2 ≤ 200000 := by omega
        obtain ⟨W, rfl⟩ : ∃ W, W = wr := ⟨_, rfl⟩
        obtain ⟨g, rfl, hg, hP⟩ := sqz_lt HI.out (i := k) (by omega)
        have hP' := hP.keep hB
        obtain ⟨x, hx⟩ : ∃ x, m[k] = x := ⟨_, rfl⟩
        obtain ⟨y, hy⟩ : ∃ y, m[k + 1] = y := ⟨_, rfl⟩
        have hX : EBox W g (k * 6) x := by
          obtain ⟨c0, c1, c2, c3, c4, c5⟩ := hP'.2 k (by omega)
          rw [hx] at c0 c1 c2 c3 c4 c5
          exact ⟨c0, c1, c2, c3, c4, c5, hP'.1⟩
        have hY : EBox W g ((k + 1) * 6) y := by
          obtain ⟨c0, c1, c2, c3, c4, c5⟩ := hP'.2 (k + 1) hlt
          rw [hy] at c0 c1 c2 c3 c4 c5
          exact ⟨c0, c1, c2, c3, c4, c5, hP'.1⟩
        have HX := Lib.hid hX
        have HY := Lib.hid hY
        have cj := fun W => joined_any x y W
        unfold joinV at cj
        have HXX := Lib.hid (show m[k]? = some x by rw [List.getElem?_eq_getElem (by omega), hx])
        have HYY := Lib.hid (show m[k + 1]? = some y by rw [List.getElem?_eq_getElem hlt, hy])
        have HB := Lib.hid hB
        have HLT := Lib.hid hlt
        have HK := Lib.hid hk
        clear hP hP' hX hY hx hy hB hk hlt
        cases hpr : pairP x y
        · simp only [hpr, Bool.false_eq_true, if_false] at cj
          have CJ := Lib.hid cj
          have HPR := Lib.hid hpr
          clear cj hpr
          go_upto_region 5 with fail
          clear hlt'
          have hk1 := fun V => idx_piece g m.length c k (by have := HLT.out; omega) V
          have hk2 := fun V => idx_piece g m.length c (k + 1) HLT.out V
          rw [show ((k + 1 : Nat) : Int) = (k : Int) + 1 by omega] at hk2
          have hk0 : IntKind.i64.wrap ((k : Int) + 1) = (k : Int) + 1 := by rw [IntKind.wrap_i64]; omega
          go_cut [4, 5] (fun b s wx => s = .bool false ∧ (∃ q, b = .pointer (some ⟨q, 0, none⟩)) ∧ Below W.heap.size W wx)
          case first =>
            go_region_held3 (fun w' => w'.cell? ⟨g, k * 6, none⟩ = some (.int .u64 (u x.p.a.hi)) ∧ w'.cell? ⟨g, k * 6 + 1, none⟩ = some (.int .u64 (u x.p.a.lo)) ∧ w'.cell? ⟨g, k * 6 + 2, none⟩ = some (.bool x.p.a.v6) ∧ w'.cell? ⟨g, k * 6 + 3, none⟩ = some (.int .i64 x.p.n) ∧ w'.cell? ⟨g, k * 6 + 4, none⟩ = some (.int .i64 x.h) ∧ w'.cell? ⟨g, k * 6 + 5, none⟩ = some (.bool x.r) ∧ w'.cell? ⟨g, (k + 1) * 6, none⟩ = some (.int .u64 (u y.p.a.hi)) ∧ w'.cell? ⟨g, (k + 1) * 6 + 1, none⟩ = some (.int .u64 (u y.p.a.lo)) ∧ w'.cell? ⟨g, (k + 1) * 6 + 2, none⟩ = some (.bool y.p.a.v6) ∧ w'.cell? ⟨g, (k + 1) * 6 + 3, none⟩ = some (.int .i64 y.p.n) ∧ w'.cell? ⟨g, (k + 1) * 6 + 4, none⟩ = some (.int .i64 y.h) ∧ w'.cell? ⟨g, (k + 1) * 6 + 5, none⟩ = some (.bool y.r) ∧ Below W.heap.size W w')
              (first | exact keep12 hk5 HX.out HY.out | (refine keep12 ?_ HX.out HY.out; go_grown))
              ((go_at_call 35; refine (CJ.out _).mono ?_; rintro e w5 ⟨rfl, hw5⟩; have hk5 := below_of (w := W) (by go_grown) hw5; have zk5 := hk5.size; (try (refine y6_then (b := W.heap.size) (c0 := .int .u64 0) (c1 := .int .u64 0) (c2 := .bool false) (c3 := .int .i64 0) (c4 := .int .i64 0) (c5 := .bool false) hw5 ?_ ?_ ?_ ?_ ?_ ?_ ?_ ?_ ?_ ?_ ?_ ?_ ?_ (fun y4 => ?_); go_size; go_simp; go_simp; go_simp; go_simp; go_simp; go_simp; go_simp; go_simp; go_simp; go_simp; go_simp; go_simp; obtain ⟨ya, yb, yc, yg, yi, yk, yd, ye, yf, yh, yj, yl, yz⟩ := y4))))
            all_goals (go_wp2_with fail; go_meet)
            all_goals exact ⟨rfl, ⟨_, rfl⟩, by go_grown⟩
          case rest =>
            obtain ⟨rfl, ⟨q, rfl⟩, hbc⟩ := hcut
            clear hk1 hk2 hk0
            go_wp2
            go_roundw
            case rel => exact ⟨rfl, k + 1, by go_num, .inr (by have := HLT.out; omega), Lib.hid (fun j h hj => by
              rcases Nat.lt_or_eq_of_le (Nat.le_of_lt_succ hj) with e | e
              · exact hno.out j h e
              · subst e
                rw [el_of HXX.out, el_of HYY.out]
                exact HPR.out), HB.out.trans (hbc.mono HB.out.size)⟩
            case measure => simp [intOf]; have := HLT.out; omega
        · simp only [hpr, if_true] at cj
          have CJ := Lib.hid cj
          have HPR := Lib.hid hpr
          clear cj hpr
          go_upto_region 5 with fail
          clear hlt'
          have hk1 := fun V => idx_piece g m.length c k (by have := HLT.out; omega) V
          have hk2 := fun V => idx_piece g m.length c (k + 1) HLT.out V
          rw [show ((k + 1 : Nat) : Int) = (k : Int) + 1 by omega] at hk2
          have hk0 : IntKind.i64.wrap ((k : Int) + 1) = (k : Int) + 1 := by rw [IntKind.wrap_i64]; omega
          go_cut [4, 5] (fun b s wx => s = .bool true ∧ (∃ q, b = .pointer (some ⟨q, 0, none⟩) ∧ W.heap.size ≤ q ∧ SBox wx q (upP x)) ∧ Below W.heap.size W wx)
          case first =>
            go_region_held3 (fun w' => w'.cell? ⟨g, k * 6, none⟩ = some (.int .u64 (u x.p.a.hi)) ∧ w'.cell? ⟨g, k * 6 + 1, none⟩ = some (.int .u64 (u x.p.a.lo)) ∧ w'.cell? ⟨g, k * 6 + 2, none⟩ = some (.bool x.p.a.v6) ∧ w'.cell? ⟨g, k * 6 + 3, none⟩ = some (.int .i64 x.p.n) ∧ w'.cell? ⟨g, k * 6 + 4, none⟩ = some (.int .i64 x.h) ∧ w'.cell? ⟨g, k * 6 + 5, none⟩ = some (.bool x.r) ∧ w'.cell? ⟨g, (k + 1) * 6, none⟩ = some (.int .u64 (u y.p.a.hi)) ∧ w'.cell? ⟨g, (k + 1) * 6 + 1, none⟩ = some (.int .u64 (u y.p.a.lo)) ∧ w'.cell? ⟨g, (k + 1) * 6 + 2, none⟩ = some (.bool y.p.a.v6) ∧ w'.cell? ⟨g, (k + 1) * 6 + 3, none⟩ = some (.int .i64 y.p.n) ∧ w'.cell? ⟨g, (k + 1) * 6 + 4, none⟩ = some (.int .i64 y.h) ∧ w'.cell? ⟨g, (k + 1) * 6 + 5, none⟩ = some (.bool y.r) ∧ Below W.heap.size W w')
              (first | exact keep12 hk5 HX.out HY.out | (refine keep12 ?_ HX.out HY.out; go_grown))
              ((go_at_call 35; refine (CJ.out _).mono ?_; rintro e w5 ⟨rfl, hw5⟩; have hk5 := below_of (w := W) (by go_grown) hw5; have zk5 := hk5.size; (try (refine y6_then (b := W.heap.size) (c0 := .int .u64 0) (c1 := .int .u64 0) (c2 := .bool false) (c3 := .int .i64 0) (c4 := .int .i64 0) (c5 := .bool false) hw5 ?_ ?_ ?_ ?_ ?_ ?_ ?_ ?_ ?_ ?_ ?_ ?_ ?_ (fun y4 => ?_); go_size; go_simp; go_simp; go_simp; go_simp; go_simp; go_simp; go_simp; go_simp; go_simp; go_simp; go_simp; go_simp; obtain ⟨ya, yb, yc, yg, yi, yk, yd, ye, yf, yh, yj, yl, yz⟩ := y4))))
            all_goals (go_wp2_with fail; go_meet)
            all_goals
              refine ⟨rfl, ⟨_, rfl, ?_, ?_, ?_, ?_, ?_, ?_, ?_, ?_⟩, by go_grown⟩
              all_goals first | (go_simp; done) | (go_simp <;> rfl) | go_size | omega
          case rest =>
            obtain ⟨rfl, ⟨q, rfl, hq, s0, s1, s2, s3, s4, s5, sz⟩, hbc⟩ := hcut
            clear hk1 hk2 hk0
            have hb9 := HB.out.trans (hbc.mono HB.out.size)
            have ho9 := own_block HI.out.1 (fun b _ hl => hb9.block b hl)
            have HO := Lib.hid ho9
            have HB9 := Lib.hid hb9
            clear ho9 hb9 hbc
            obtain ⟨X, hXX⟩ : ∃ X, upP x = X := ⟨_, rfl⟩
            rw [hXX] at s0 s1 s2 s3 s4 s5
            have HUP := Lib.hid hXX
            clear hXX
            obtain ⟨W9, rfl⟩ : ∃ W9, W9 = wc := ⟨_, rfl⟩
            go_wp2_with fail
            refine (replace_any (base := w.heap.size) (i := k) X W9.heap.size (own_block HO.out (fun b _ hl => Below.block (B := W9.heap.size) (w := W9) (by go_grown) b hl)) (hp_new rfl) (by have := HLT.out; omega) (by have := HI.out.2.2.1; have := HL.out; omega)).mono ?_
            rintro e w9 ⟨rfl, ho, hb⟩
            have hone : oneL m = some (repL m k X) := by
              have := oneL_at (l := m) k (fun j h hj => hno.out j h hj) HLT.out (by rw [el_of HXX.out, el_of HYY.out]; exact HPR.out)
              rw [this, el_of HXX.out, HUP.out]
              rfl
            have hlen := repl_len (show k + 2 ≤ m.length by have := HLT.out; omega) X
            have hI9 : SqzI w l0 (repL m k X) (some ⟨g, 0, none⟩) c w9 := by
              refine ⟨by rw [hlen]; exact ho, (sqz_some hone).symm.trans HI.out.2.1, by have := HI.out.2.2.1; omega, ?_⟩
              have z1 := HI.out.2.2.2.size
              exact (HI.out.2.2.2.trans (HB9.out.mono z1)).trans (Below.trans (by first | (have := HB9.out.size; go_grown; done) | exact Below.alloc (Below.refl _ _) (by have := HB9.out.size; omega) _) hb)
            have HI9 := Lib.hid hI9
            have HLEN := Lib.hid hlen
            clear ho hb hone hlen hI9 s0 s1 s2 s3 s4 s5
            go_wp2
            go_step3
            exact ⟨rfl, ⟨repL m k X, some ⟨g, 0, none⟩, c, HI9.out, _, _, _, _, _, _, _, _, _, _, _, _, _, _, _, _, _, _, _, _, _, _, _, _, _, _, _, _, _, _, _, _, _, _, _, by rw [HLEN.out]⟩, by have := HLEN.out; have := HLT.out; simp; omega⟩
      · have hend : sqz l0 = m := by
          rw [← HI.out.2.1]
          exact sqz_none (oneL_no fun j hj => hno.out j hj (by omega))
        have hlt' : decide ((k : Int) < (m.length : Int) - 1) = false := decide_eq_false (by omega)
        have HE := Lib.hid hend
        have HB := Lib.hid hB
        clear hend hB
        go_wp2
        simp only [Exit.jump]
        go_ret
        rw [HE.out]
        exact ⟨A, c, rfl, own_block HI.out.1 (fun b _ hl => HB.out.block b hl), HI.out.2.2.2.trans (HB.out.mono HI.out.2.2.2.size)⟩

end Go.Proofs.Ytggceecolfebjaa
