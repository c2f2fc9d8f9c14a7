/-
  What Choose of package victim returns. Condition: the entries lie where the argument says.
-/
import Derived.Test.YtmmggalcebepeaaNl
import Derived.Deep.RegionHeld3
import Derived.Deep.DeepCutAuto
namespace Go.Proofs.Ytmmggalcebepeaa
open Go.RowKit
set_option maxRecDepth 100000

theorem idx_veo (g off n c k : Nat) (h : k < n) (V : World) : (Instr.indexAt 26 (.slice (some ⟨g, off, none⟩) n c) (.int .i64 (k : Int))).run Try.prog V = .ok (.pointer (some ⟨g, off + k * 2, none⟩)) V := by
  have h0 : (0 : Int) ≤ (k : Int) := by omega
  have h1 : (k : Int) < (n : Int) := by omega
  go_simp
/-- The rule, and the one that has to go so far, in boxes. -/
def ChB (w0 : World) (gf : FuncId) (q6 q7 : Nat) (x : Ent) (wx : World) : Prop := wx.heap[q6]? = some (.cells #[.func (.func gf) #[] #[]] 41 (0, 0)) ∧ wx.heap[q7]? = some (.cells #[.int .i64 x.i, .int .i64 x.sc] 35 (0, 0)) ∧ w0.heap.size ≤ q6 ∧ w0.heap.size ≤ q7 ∧ Below w0.heap.size w0 wx
theorem keep2e {w w' : World} {g o : Nat} {x : Ent} (h : Below w.heap.size w w') (hg : g < w.heap.size) (h0 : w.cell? ⟨g, o, none⟩ = some (.int .i64 x.i)) (h1 : w.cell? ⟨g, o + 1, none⟩ = some (.int .i64 x.sc)) : w'.cell? ⟨g, o, none⟩ = some (.int .i64 x.i) ∧ w'.cell? ⟨g, o + 1, none⟩ = some (.int .i64 x.sc) ∧ Below w.heap.size w w' :=
  ⟨(h.cell (p := ⟨g, o, none⟩) hg).trans h0, (h.cell (p := ⟨g, o + 1, none⟩) hg).trans h1, h⟩

theorem y_one {V w4 : World} {o : Obj} (h : Below (V.alloc o).drew.heap.size (V.alloc o).drew w4) : w4.heap[V.heap.size]? = some o := (h.block _ (by show V.heap.size < (V.alloc o).heap.size; simp)).trans (hp_new (w := V) rfl)
theorem y_two {V w4 : World} {o o' : Obj} (h : Below ((V.alloc o).alloc o').drew.heap.size ((V.alloc o).alloc o').drew w4) : w4.heap[V.heap.size]? = some o := (h.block _ (by show V.heap.size < ((V.alloc o).alloc o').heap.size; simp only [World.size_alloc]; omega)).trans (hp_old (w := V.alloc o) (by simp) (hp_new (w := V) rfl))
theorem oneC {w : World} {b : Nat} {x : Value} {e : TypeId} (h : w.heap[b]? = some (.cells #[x] e (0, 0))) : w.cell? ⟨b, 0, none⟩ = some x ∧ w.frozen? ⟨b, 0, none⟩ = false ∧ b < w.heap.size := ⟨by rw [cell_row h]; rfl, frozen_of_row _ _ _ _ _ h, lt_of_block h⟩
theorem twoC {w : World} {b : Nat} {x y : Value} {e : TypeId} (h : w.heap[b]? = some (.cells #[x, y] e (0, 0))) : w.cell? ⟨b, 0, none⟩ = some x ∧ w.cell? ⟨b, 1, none⟩ = some y ∧ w.frozen? ⟨b, 0, none⟩ = false ∧ w.frozen? ⟨b, 1, none⟩ = false ∧ b < w.heap.size := ⟨by rw [cell_row h]; rfl, by rw [cell_row h]; rfl, frozen_of_row _ _ _ _ _ h, frozen_of_row _ _ _ _ _ h, lt_of_block h⟩
theorem put1 {w : World} {b : Nat} {x u : Value} {e : TypeId} (h : w.heap[b]? = some (.cells #[x] e (0, 0))) : (w.setCell ⟨b, 0, none⟩ u).heap[b]? = some (.cells #[u] e (0, 0)) := heap_setCell_same w b 0 _ e u h
theorem put2 {w : World} {b : Nat} {x y u v : Value} {e : TypeId} (h : w.heap[b]? = some (.cells #[x, y] e (0, 0))) : ((w.setCell ⟨b, 0, none⟩ u).setCell ⟨b, 1, none⟩ v).heap[b]? = some (.cells #[u, v] e (0, 0)) := heap_setCell_same _ b 1 _ e v (heap_setCell_same w b 0 _ e u h)

theorem far1 {w : World} {b k : Nat} {u : Value} (h : k ≠ b) : (w.setCell ⟨b, 0, none⟩ u).heap[k]? = w.heap[k]? := Below.heap_setCell _ _ _ _ h
theorem far2 {w : World} {b k : Nat} {u v : Value} (h : k ≠ b) : ((w.setCell ⟨b, 0, none⟩ u).setCell ⟨b, 1, none⟩ v).heap[k]? = w.heap[k]? := (Below.heap_setCell _ _ _ _ h).trans (Below.heap_setCell _ _ _ _ h)
theorem size_set (w : World) (p : Addr) (u : Value) : (w.setCell p u).heap.size = w.heap.size := by simp [World.setCell]

set_option maxHeartbeats 4000000 in
theorem choose12_any (pol : Int) (A : Option Addr) (c : Nat) (l : List Ent) (w : World) (hr : KE.Rd w A l) (hc : l.length ≤ c) (hl : l.length ≤ 100000) :
    Calls Try.prog 8 #[.int .i64 pol, .slice A l.length c] w fun e w' => e = .returned (.tuple #[.int .i64 (chI pol l), .bool (decide (0 < l.length))]) ∧ Below w.heap.size w w' := by
  have HR := Lib.hid hr
  clear hr
  by_cases h0 : l.length = 0
  · have HC : Hid (chI pol l = 0 ∧ decide (0 < l.length) = false) := Lib.hid ⟨by unfold chI; rw [if_pos h0], by simp [h0]⟩
    rw [h0]
    rw [h0] at HC
    clear h0 hl hc
    go_enter Try.func8, Try.ntmps8
    go_wp2
    refine bodyPost_ret (v := .tuple #[.int .i64 0, .bool false]) (by simp [*, results, Try.results8, go_sem] <;> rfl) rfl ⟨ret_two12 HC.out.1.symm HC.out.2.symm, Below.refl _ _⟩
  · have HC : Hid (chI pol l = nuL l (whr pol l) ∧ decide (0 < l.length) = true ∧ whr pol l < l.length) := Lib.hid ⟨by unfold chI; rw [if_neg h0], by simp; omega, whr_lt pol l (by omega)⟩
    obtain ⟨n, hn⟩ : ∃ n, n = l.length := ⟨_, rfl⟩
    rw [← hn] at h0 hl hc
    rw [← hn]
    rw [← hn] at HC
    have HN := Lib.hid hn
    obtain ⟨g, off, rfl, hg, kn, ks⟩ := ke_at HR.out (k := 0) (by omega)
    rw [Nat.zero_mul, Nat.add_zero] at kn ks
    have i0 : ∀ V, (Instr.indexAt 26 (.slice (some ⟨g, off, none⟩) n c) (.int .i64 0)).run Try.prog V = .ok (.pointer (some ⟨g, off, none⟩)) V := fun V => by have := idx_veo g off n c 0 (by omega) V; simpa using this
    have hn0 : ¬ (n : Int) = 0 := by omega
    have hn1 : ((n : Int) == 0) = false := by simp; omega
    have kn' : w.cell? ⟨g, off, none⟩ = some (.int .i64 (nth l 0).i) := kn
    have ks' : w.cell? ⟨g, off + 1, none⟩ = some (.int .i64 (nth l 0).sc) := ks
    have hE : ∀ args w, (callFunc (ruleF pol) args).run Try.prog w = .ok (.enter (ruleF pol) args) w := (rule_cmp pol l).ent
    have HCC := Lib.hid (rule_cmp pol l)
    have hst := fun (W : World) (a : Addr) m => run_store Try.prog W a (Value.func (.func (ruleF pol)) #[] #[]) m rfl
    obtain ⟨x0, hx0⟩ : ∃ x0, x0 = nth l 0 := ⟨_, rfl⟩
    rw [← hx0] at kn' ks'
    have HX := Lib.hid hx0
    clear kn ks hn h0 hx0
    go_enter Try.func8, Try.ntmps8
    go_upto_region 3 with fail
    go_cut [6, 7] (fun b s wx => ∃ q6 q7, b = .pointer (some ⟨q6, 0, none⟩) ∧ s = .pointer (some ⟨q7, 0, none⟩) ∧ ChB w (ruleF pol) q6 q7 x0 wx)
    case first =>
      go_region_held3 (fun w' => w'.cell? ⟨g, off, none⟩ = some (.int .i64 x0.i) ∧ w'.cell? ⟨g, off + 1, none⟩ = some (.int .i64 x0.sc) ∧ Below w.heap.size w w')
        (first | with_reducible exact keep2e hk4 hg kn' ks' | (refine keep2e ?_ hg kn' ks'; go_grown))
        (first | (go_at_call 14; refine (rule_any pol _).mono ?_; rintro e w4 ⟨rfl, hw4⟩; have hk4 := below_of (w := w) (by go_grown) hw4; have zk4 := hk4.size; (try (have y1 := y_one hw4; (try (simp only [World.size_alloc] at y1)); (try (obtain ⟨c0, f0, z0⟩ := oneC y1)); (try (obtain ⟨d0, d1, e0, e1, z1⟩ := twoC y1)))); (try (have y0 := y_two hw4; (try (obtain ⟨c0, f0, z0⟩ := oneC y0)); (try (obtain ⟨d0, d1, e0, e1, z1⟩ := twoC y0))))))
      all_goals (go_wp2_with fail; go_meet)
      case rel => exact ⟨_, _, rfl, rfl, hp_old (by simp) (hp_new rfl), hp_new (by simp), by omega, by omega, (hk4.alloc zk4 _).alloc (by simp; omega) _⟩
      case rel => exact ⟨_, _, rfl, rfl, hp_new (by simp), hp_old (by simp) (hp_new rfl), by omega, by omega, (hk4.alloc zk4 _).alloc (by simp; omega) _⟩
      case rel => exact ⟨_, _, rfl, rfl, hp_old (by rw [size_set]; exact z0) (put1 y1), hp_new (by rw [size_set]), Nat.le_refl _, by omega, (hk4.setCell (p := ⟨w.heap.size, 0, none⟩) (Nat.le_refl _) _).alloc (by rw [size_set]; omega) _⟩
      case rel => exact ⟨_, _, rfl, rfl, (far2 (by omega)).trans (put1 y0), put2 ((far1 (by omega)).trans y1), Nat.le_refl _, by omega, ((hk4.setCell (p := ⟨w.heap.size, 0, none⟩) (Nat.le_refl _) _).setCell (p := ⟨w.heap.size + 1, 0, none⟩) (Nat.le_succ _) _).setCell (p := ⟨w.heap.size + 1, 1, none⟩) (Nat.le_succ _) _⟩
      case rel => exact ⟨_, _, rfl, rfl, hp_new (by rw [size_set, size_set]), hp_old (by rw [size_set, size_set]; exact z1) (put2 y1), by omega, Nat.le_refl _, ((hk4.setCell (p := ⟨w.heap.size, 0, none⟩) (Nat.le_refl _) _).setCell (p := ⟨w.heap.size, 1, none⟩) (Nat.le_refl _) _).alloc (by rw [size_set, size_set]; omega) _⟩
      case rel => exact ⟨_, _, rfl, rfl, (far2 (by omega)).trans (put1 y1), put2 ((far1 (by omega)).trans y0), Nat.le_succ _, Nat.le_refl _, ((hk4.setCell (p := ⟨w.heap.size + 1, 0, none⟩) (Nat.le_succ _) _).setCell (p := ⟨w.heap.size, 0, none⟩) (Nat.le_refl _) _).setCell (p := ⟨w.heap.size, 1, none⟩) (Nat.le_refl _) _⟩
    case rest =>
      obtain ⟨q6, q7, rfl, rfl, hb⟩ := hcut
      obtain ⟨W, rfl⟩ : ∃ W, W = wc := ⟨_, rfl⟩
      have HB := Lib.hid hb
      have hB := hb.2.2.2.2
      have hz := hB.size
      have HX0 : Hid (x0 = nth l 0 ∧ n = l.length) := Lib.hid ⟨HX.out, HN.out⟩
      have RD1 := Lib.hid (HR.out.cut c 1 (by rw [← HN.out]; exact hc))
      have hsf := Kd.slice_from KE_ty (some ⟨g, off, none⟩) n c 1 (by omega) (by omega)
      have e2 : (1 : Int).toNat = 1 := rfl
      rw [e2] at hsf
      obtain ⟨A1, hA1⟩ : ∃ A1, A1 = cutK KE.k (some ⟨g, off, none⟩) c 1 := ⟨_, rfl⟩
      rw [← hA1] at hsf RD1
      obtain ⟨m, hm⟩ : ∃ m, m = n - 1 := ⟨_, rfl⟩
      rw [← hm] at hsf
      have HM : Hid (m = n - 1 ∧ n = m + 1) := Lib.hid (by omega)
      clear hb hB hst i0 kn' ks' hg hA1 hm HX
      go_wp2_with fail
      go_loopw [21] (fun i wr => ∃ (k x : Nat), i = .int .i64 k ∧ k ≤ m ∧ Fst pol l (k + 1) x ∧ ChB w (ruleF pol) q6 q7 (nth l x) wr) (fun i _ => m - (RowKit.intOf i).toNat)
      case atStart => exact ⟨0, 0, rfl, Nat.zero_le _, fst_one pol l, by rw [← HX0.out.1]; exact HB.out⟩
      case round =>
        clear HB
        obtain ⟨k, x, rfl, hk, hf, hb⟩ := hrel
        have HF := Lib.hid hf
        obtain ⟨W2, rfl⟩ : ∃ W2, W2 = wr := ⟨_, rfl⟩
        by_cases hkm : k < m
        · have hkm' : (k : Int) < (m : Int) := by omega
          have hm1 := HM.out
          have HKM := Lib.hid hkm
          have hk9 : (k : Int) + 1 ≤ 1000000 := by omega
          obtain ⟨g1, off1, rfl, hg1, kn, ks⟩ := ke_at (RD1.out.keep hb.2.2.2.2 (Nat.le_refl _)) (k := k) (by rw [List.length_drop, ← HX0.out.2]; omega)
          have e1 : nuL (l.drop 1) k = (nth l (k + 1)).i := by
            rw [nuL_at _ k (by rw [List.length_drop, ← HX0.out.2]; omega), nth_at l (k + 1) (by rw [← HX0.out.2]; have := HM.out; omega), List.getElem_drop]
            congr 2
            omega
          have e2 : scL (l.drop 1) k = (nth l (k + 1)).sc := by
            rw [scL_at _ k (by rw [List.length_drop, ← HX0.out.2]; omega), nth_at l (k + 1) (by rw [← HX0.out.2]; have := HM.out; omega), List.getElem_drop]
            congr 2
            omega
          rw [e1] at kn
          rw [e2] at ks
          have ik := fun V => idx_veo g1 off1 m (c - 1) k hkm V
          have CC := Lib.hid (fun V => HCC.out.call (k + 1) x V)
          obtain ⟨xk, hxk⟩ : ∃ xk, xk = nth l (k + 1) := ⟨_, rfl⟩
          obtain ⟨xx, hxx⟩ : ∃ xx, xx = nth l x := ⟨_, rfl⟩
          rw [← hxk] at kn ks
          rw [← hxk, ← hxx] at CC
          rw [← hxx] at hb
          have HXX : Hid (xk = nth l (k + 1) ∧ xx = nth l x) := Lib.hid ⟨hxk, hxx⟩
          have HB := Lib.hid hb
          clear hf hb e1 e2 hxk hxx hm1
          go_upto_region 7 with fail
          generalize hW : World.alloc _ _ = W3
          have y9 : W3.heap[W2.heap.size]? = some (.cells #[.int .i64 xk.i, .int .i64 xk.sc] 35 (0, 0)) := by subst hW; exact hp_new rfl
          have y6 : W3.heap[q6]? = some (.cells #[.func (.func (ruleF pol)) #[] #[]] 41 (0, 0)) := by subst hW; exact hp_old (lt_of_block HB.out.1) HB.out.1
          have y7 : W3.heap[q7]? = some (.cells #[.int .i64 xx.i, .int .i64 xx.sc] 35 (0, 0)) := by subst hW; exact hp_old (lt_of_block HB.out.2.1) HB.out.2.1
          have HB3 : Hid (Below w.heap.size w W3) := Lib.hid (by subst hW; exact (HB.out.2.2.2.2).alloc (HB.out.2.2.2.2).size _)
          obtain ⟨a0, -, az⟩ := oneC y6
          obtain ⟨b0, b1, -, -, bz⟩ := twoC y7
          obtain ⟨c0, c1, -, -, cz⟩ := twoC y9
          have Y6 := Lib.hid y6
          have Y7 := Lib.hid y7
          have Y9 := Lib.hid y9
          clear hW kn ks y6 y7 y9
          by_cases hcf : cfP pol l (k + 1) x ≤ 0
          · have HFN := Lib.hid (fst_yes pol l (k + 1) x HF.out hcf)
            go_wp2_with (go_at_fn (ruleF pol); refine (CC.out _).mono ?_; rintro e w4 ⟨rfl, hw4⟩; have Z6 := Lib.hid ((hw4.block _ az).trans Y6.out); have Z7 := Lib.hid ((hw4.block _ bz).trans Y7.out); have Z9 := Lib.hid ((hw4.block _ cz).trans Y9.out); obtain ⟨d0, d1, df0, df1, dz⟩ := twoC Z7.out; obtain ⟨f0, f1, -, -, fz⟩ := twoC Z9.out; have HB4 := Lib.hid (HB3.out.trans (hw4.mono HB3.out.size)); clear hw4)
            go_wp2
            go_roundw
            case rel =>
              refine ⟨k + 1, k + 1, by go_num, HKM.out, HFN.out, ?_⟩
              rw [← HXX.out.1]
              exact ⟨(far2 (fun e => by subst e; have h1 := Z6.out; have h2 := Z7.out; rw [h1] at h2; simp at h2)).trans Z6.out, put2 Z7.out, HB.out.2.2.1, HB.out.2.2.2.1, (HB4.out.setCell (p := ⟨q7, 0, none⟩) HB.out.2.2.2.1 _).setCell (p := ⟨q7, 1, none⟩) HB.out.2.2.2.1 _⟩
            case measure =>
              have := HKM.out
              simp [RowKit.intOf]
              omega
          · have HFN := Lib.hid (fst_no pol l (k + 1) x HF.out hcf)
            have hcf' : decide (cfP pol l (k + 1) x ≤ 0) = false := by simp; omega
            go_wp2_with (go_at_fn (ruleF pol); refine (CC.out _).mono ?_; rintro e w4 ⟨rfl, hw4⟩; have Z6 := Lib.hid ((hw4.block _ az).trans Y6.out); have Z7 := Lib.hid ((hw4.block _ bz).trans Y7.out); have HB4 := Lib.hid (HB3.out.trans (hw4.mono HB3.out.size)); clear hw4)
            go_roundw
            case rel =>
              refine ⟨k + 1, x, by go_num, HKM.out, HFN.out, ?_⟩
              rw [← HXX.out.2]
              exact ⟨Z6.out, Z7.out, HB.out.2.2.1, HB.out.2.2.2.1, HB4.out⟩
            case measure =>
              have := HKM.out
              simp [RowKit.intOf]
              omega
        · have hkm' : ¬ (k : Int) < (m : Int) := by omega
          have hm1 := HM.out
          have HXW : Hid (chI pol l = (nth l x).i) := Lib.hid (by
            have hf1 := HF.out
            rw [show k + 1 = l.length by rw [← HX0.out.2]; omega] at hf1
            rw [HC.out.1, ← tt_whr pol l x hf1.1 hf1.2]
            rfl)
          have HB := Lib.hid hb
          obtain ⟨b0, b1, -, -, bz⟩ := twoC hb.2.1
          clear hb hf hm1
          go_wp2
          refine bodyPost_ret (v := .tuple #[.int .i64 (nth l x).i, .bool true]) (by simp [*, results, Try.results8, go_sem] <;> rfl) rfl ⟨ret_two12 HXW.out.symm HC.out.2.1.symm, HB.out.2.2.2.2⟩

end Go.Proofs.Ytmmggalcebepeaa
