/-
  What Touch and Drop of the document's answer for layer 10 return. Condition: its numbers lie where the argument says.
-/
import Derived.Test.YtkkjdpmkiedbiaaJh
namespace Go.Proofs.Ytkkjdpmkiedbiaa
open Go.RowKit
set_option maxRecDepth 100000

/-- What a call of it leaves: its row is that of before, or a fresh one. -/
def RlPost (w : World) (A : Option Addr) (l' : List Nat) (m : Int) (b0 : Bool) (e : Ending) (w' : World) : Prop :=
  ∃ (A' : Option Addr) (c' : Nat), e = .returned (.tuple #[.agg #[.slice A' l'.length c', .int .i64 m], .bool b0]) ∧ KN.Rd w' A' l' ∧ (∀ b, A'.map (·.block) = some b → (A.map (·.block) = some b ∨ w.heap.size ≤ b) ∧ b < w'.heap.size) ∧ Below w.heap.size w w'
theorem two10 {w : World} {b : Nat} {x0 x1 : Value} {e : TypeId} (h : w.heap[b]? = some (.cells #[x0, x1] e (0, 0))) :
    w.cell? ⟨b, 0, none⟩ = some x0 ∧ w.cell? ⟨b, 1, none⟩ = some x1 ∧ w.frozen? ⟨b, 0, none⟩ = false ∧ w.frozen? ⟨b, 1, none⟩ = false ∧ b < w.heap.size :=
  ⟨by rw [cell_row h]; rfl, by rw [cell_row h]; rfl, frozen_of_row _ _ _ _ _ h, frozen_of_row _ _ _ _ _ h, lt_of_block h⟩
theorem below_put2 {B b : Nat} {w w1 : World} {y0 y1 : Value} (h : Below B w w1) (hb : B ≤ b) : Below B w ((w1.setCell ⟨b, 0, none⟩ y0).setCell ⟨b, 1, none⟩ y1) :=
  (h.setCell (p := ⟨b, 0, none⟩) hb _).setCell (p := ⟨b, 1, none⟩) hb _
theorem rd_far {w : World} {A : Option Addr} {l : List Nat} (h : KN.Rd w A l) {p : Addr} (hA : ∀ b, A.map (·.block) = some b → b ≠ p.block) (u : Value) : KN.Rd (w.setCell p u) A l := rd_block' h fun b hb => Below.heap_setCell _ _ _ _ (hA b hb)

set_option maxHeartbeats 2000000 in
theorem rtouch10_any (w : World) (A : Option Addr) (c : Nat) (s : Rc) (hR : KN.Rd w A s.L) (hl : s.L.length ≤ 1024) (hb : ∀ b, A.map (·.block) = some b → b < w.heap.size) (i : Int) :
    Calls Try.prog 12 #[.agg #[.slice A s.L.length c, .int .i64 ((s.n : Int) - 1)], .int .i64 i] w (RlPost w A (s.touch i).L ((s.n : Int) - 1) (s.may i)) := by
  have HR := Lib.hid hR
  have HB := Lib.hid hb
  clear hR hb
  obtain ⟨m, hm⟩ : ∃ m : Int, m = (s.n : Int) - 1 := ⟨_, rfl⟩
  have hmay : s.may i = (decide (0 ≤ i) && decide (i < m)) := by unfold Rc.may; rw [hm]
  rw [← hm]
  cases hh : s.may i
  · have HE : Hid ((s.touch i).L = s.L) := Lib.hid (by rw [touch_no hh])
    have hcl : RlPost w A (s.touch i).L m false (.returned (.tuple #[.agg #[.slice A s.L.length c, .int .i64 m], .bool false])) (((w.alloc (.cells #[.slice A s.L.length c, .int .i64 m] 28)).alloc (.cells #[.slice none 0 0, .int .i64 0] 28))) := by
      have hbl : Below w.heap.size w (((w.alloc (.cells #[.slice A s.L.length c, .int .i64 m] 28)).alloc (.cells #[.slice none 0 0, .int .i64 0] 28))) := by go_grown
      rw [HE.out]
      exact ⟨A, c, rfl, HR.out.kept hbl, fun b hb => ⟨.inl hb, Nat.lt_of_lt_of_le (HB.out b hb) hbl.size⟩, hbl⟩
    have HF : Hid (∀ W, Below w.heap.size w W → RlPost w A (s.touch i).L m false (.returned (.tuple #[.agg #[.slice A s.L.length c, .int .i64 m], .bool false])) W) := Lib.hid (fun W hbl => by
      rw [HE.out]
      exact ⟨A, c, rfl, HR.out.kept hbl, fun b hb => ⟨.inl hb, Nat.lt_of_lt_of_le (HB.out b hb) hbl.size⟩, hbl⟩)
    rw [hh] at hmay
    clear hcl hm hh
    cases h0 : decide (0 ≤ i)
    · have h0' : decide (i < 0) = true := by have := of_decide_eq_false h0; simp; omega
      clear hmay
      go_enter Try.func12, Try.ntmps12
      go_wp2
      refine bodyPost_ret (v := .tuple #[.agg #[.slice A s.L.length c, .int .i64 m], .bool false]) (by simp [*, results, Try.results12, go_sem] <;> rfl) rfl ?_
      exact HF.out _ (by go_grown)
    · have h0' : decide (i < 0) = false := by have := of_decide_eq_true h0; simp; omega
      rw [h0] at hmay
      have h1' : decide (m ≤ i) = true := by simp at hmay ⊢; omega
      clear hmay
      go_enter Try.func12, Try.ntmps12
      go_wp2
      refine bodyPost_ret (v := .tuple #[.agg #[.slice A s.L.length c, .int .i64 m], .bool false]) (by simp [*, results, Try.results12, go_sem] <;> rfl) rfl ?_
      exact HF.out _ (by go_grown)
  · obtain ⟨k, rfl⟩ := Int.eq_ofNat_of_zero_le (may_bd hh).1
    have hk := may_bd hh
    have HE : Hid ((s.touch (k : Int)).L = [k] ++ wout s.L (k : Int)) := Lib.hid (by rw [touch_yes hh]; rfl)
    have h0' : decide ((k : Int) < 0) = false := by simp
    have h1' : decide (m ≤ (k : Int)) = false := by simp; omega
    have hwl := wout_le s.L (k : Int)
    have HW := Lib.hid (fun W (hb : Below w.heap.size w W) => rwithout_any W A s.L.length s.L (HR.out.kept hb) hl (k : Int))
    have HC := Lib.hid (fun W (hb : Below w.heap.size w W) => rwithout_any W A c s.L (HR.out.kept hb) hl (k : Int))
    clear hmay hh hm hk HW
    go_enter Try.func12, Try.ntmps12
    go_upto_region 4 with fail
    generalize hW : World.alloc _ _ = W
    have hB : Below w.heap.size w W := by subst hW; go_grown
    have x1 : W.heap[w.heap.size]? = some (.cells #[.slice A s.L.length c, .int .i64 m] 28 (0, 0)) := by subst hW; exact hp_old (by simp; omega) (hp_old (by simp) (hp_new rfl))
    have x2 : W.heap[w.heap.size + 1]? = some (.cells #[.slice none 0 0, .int .i64 0] 28 (0, 0)) := by subst hW; exact hp_old (by simp) (hp_new (by simp))
    have x3 : W.heap[w.heap.size + 2]? = some (.cells #[.int .i64 (k : Int)] 3 (0, 0)) := by subst hW; exact hp_new (by simp)
    have HB4 := Lib.hid hB
    have X1 := Lib.hid x1
    have X2 := Lib.hid x2
    have hzw := lt_of_block x3
    have ho : W.ownsRow (w.heap.size + 2) 3 1 (.slice (some ⟨w.heap.size + 2, 0, none⟩) 1 1) 1 (KN.row [k]) := ⟨rfl, .inr ⟨w.heap.size + 2, 1, #[.int .i64 (k : Int)], rfl, Nat.le_refl _, x3, Nat.le_refl _, by simp only [maxLen]; omega, rfl, rfl⟩⟩
    have HO := Lib.hid ho
    obtain ⟨a0, a1, -, -, az⟩ := two10 x1
    clear hW hB x1 x2 x3 ho
    go_wp2_with fail
    refine (HC.out W HB4.out).mono ?_
    rintro e w4 ⟨A4, c4, rfl, ho4, b4⟩
    have HN4 := Lib.hid (own_nil ho4)
    have R4 := Lib.hid (NatsPost.rd ho4).1
    have HO4 := Lib.hid (own_block HO.out (fun b _ hl => b4.block b hl))
    have HB5 := Lib.hid b4
    have z4 := b4.size
    clear ho4 b4
    go_wp2_with (
      at_builtin
      refine Kd.wpList_many KN_ty rfl (.tmp 18) (.tmp 22) rfl (w.heap.size + 2) _ 1 [k] rfl (by rfl) HO4.out A4 (wout s.L (k : Int)).length c4 (wout s.L (k : Int)) rfl HN4.out (by rfl) R4.out (by omega) (by omega) ?_
      intro A' c' w7 hG
      have HG := Lib.hid hG
      have hb7 := hG.2.2.2
      have y1 := (hb7.block _ (by omega)).trans ((HB5.out.block _ (lt_of_block X1.out)).trans X1.out)
      have y2 := (hb7.block _ (by omega)).trans ((HB5.out.block _ (lt_of_block X2.out)).trans X2.out)
      obtain ⟨p0, p1, -, -, pz⟩ := two10 y1
      obtain ⟨q0, q1, f0, f1, qz⟩ := two10 y2
      have HB7 := Lib.hid (HB4.out.trans (((HB5.out.mono (Nat.le_of_lt hzw)).trans hb7).mono (by omega)))
      clear hG hb7 y1 y2
      )
    refine bodyPost_ret (v := .tuple #[.agg #[.slice A' (1 + (wout s.L (k : Int)).length) c', .int .i64 m], .bool true]) (by simp [*, results, Try.results12, go_sem] <;> rfl) rfl ?_
    have hlen : ([k] ++ wout s.L (k : Int)).length = 1 + (wout s.L (k : Int)).length := by simp; omega
    obtain ⟨A9, c9, e9, -, r9, l9⟩ := KN.rd_own HG.out.1 hlen.symm
    simp only [Value.slice.injEq, true_and] at e9
    obtain ⟨rfl, rfl⟩ := e9
    have hne : ∀ b, A'.map (·.block) = some b → b ≠ w.heap.size + 1 := fun b hb e => by
      have := (own_at HG.out.1 hb).1
      omega
    rw [HE.out]
    refine ⟨A', c', by rw [hlen], rd_far (rd_far r9 hne _) hne _, fun b hb => ⟨.inr ?_, ?_⟩, below_put2 HB7.out (Nat.le_succ _)⟩
    · have := (own_at HG.out.1 hb).1
      omega
    · have := (own_at HG.out.1 hb).2.1
      simpa [World.setCell] using this

theorem keep2J {W w' : World} {a : Nat} {c0 c1 : Value} (hb : Below (a + 1) W w') (x0 : W.cell? ⟨a, 0, none⟩ = some c0) (x1 : W.cell? ⟨a, 1, none⟩ = some c1) :
    w'.cell? ⟨a, 0, none⟩ = some c0 ∧ w'.cell? ⟨a, 1, none⟩ = some c1 ∧ Below (a + 1) W w' :=
  ⟨(hb.cell (p := ⟨a, 0, none⟩) (Nat.lt_succ_self _)).trans x0, (hb.cell (p := ⟨a, 1, none⟩) (Nat.lt_succ_self _)).trans x1, hb⟩
set_option maxHeartbeats 2000000 in
theorem rdrop10_any (w : World) (A : Option Addr) (c : Nat) (s : Rc) (hR : KN.Rd w A s.L) (hl : s.L.length ≤ 1024) (hb : ∀ b, A.map (·.block) = some b → b < w.heap.size) (i : Int) :
    Calls Try.prog 13 #[.agg #[.slice A s.L.length c, .int .i64 ((s.n : Int) - 1)], .int .i64 i] w (RlPost w A (s.drop i).L ((s.n : Int) - 1) (s.has i)) := by
  have HR := Lib.hid hR
  have HB := Lib.hid hb
  clear hR hb
  generalize (s.n : Int) - 1 = m
  have HH := Lib.hid (fun W (hb : Below w.heap.size w W) => rhas10_any W A c s.L m (HR.out.kept hb) hl i)
  rw [show hasL s.L i = s.has i from rfl] at HH
  have HC := Lib.hid (fun W (hb : Below w.heap.size w W) => rwithout_any W A c s.L (HR.out.kept hb) hl i)
  cases hh : s.has i
  · have HE : Hid ((s.drop i).L = s.L) := Lib.hid (by rw [drop_no hh])
    have HF : Hid (∀ W, Below w.heap.size w W → RlPost w A (s.drop i).L m false (.returned (.tuple #[.agg #[.slice A s.L.length c, .int .i64 m], .bool false])) W) := Lib.hid (fun W hbl => by
      rw [HE.out]
      exact ⟨A, c, rfl, HR.out.kept hbl, fun b hb => ⟨.inl hb, Nat.lt_of_lt_of_le (HB.out b hb) hbl.size⟩, hbl⟩)
    rw [hh] at HH
    clear hh
    go_enter Try.func13, Try.ntmps13
    go_wp2_with fail
    refine (HH.out _ (by go_grown)).mono ?_
    rintro e w1 ⟨rfl, b1⟩
    have hw := below_of (w := w) (by go_grown) b1
    have x1 := (b1.block w.heap.size (by simp; omega)).trans (hp_old (by simp) (hp_new rfl))
    have x2 := (b1.block (w.heap.size + 1) (by simp)).trans (hp_new (by simp))
    obtain ⟨p0, p1, -, -, pz⟩ := two10 x1
    obtain ⟨q0, q1, f0, f1, qz⟩ := two10 x2
    have HW := Lib.hid hw
    clear b1 x1 x2 hw
    go_wp2
    refine bodyPost_ret (v := .tuple #[.agg #[.slice A s.L.length c, .int .i64 m], .bool false]) (by simp [*, results, Try.results13, go_sem] <;> rfl) rfl ?_
    exact HF.out _ (below_put2 HW.out (Nat.le_succ _))
  · have HE : Hid ((s.drop i).L = wout s.L i) := Lib.hid rfl
    rw [hh] at HH
    have hwl := wout_le s.L i
    clear hh
    go_enter Try.func13, Try.ntmps13
    go_wp2_with fail
    refine (HH.out _ (by go_grown)).mono ?_
    rintro e w1 ⟨rfl, b1⟩
    have hw := below_of (w := w) (by go_grown) b1
    have x1 := (b1.block w.heap.size (by simp; omega)).trans (hp_old (by simp) (hp_new rfl))
    have x2 := (b1.block (w.heap.size + 1) (by simp)).trans (hp_new (by simp))
    obtain ⟨p0, p1, -, -, pz⟩ := two10 x1
    obtain ⟨q0, q1, f0, f1, qz⟩ := two10 x2
    have HW := Lib.hid hw
    have CW := Lib.hid (fun W (hb : Below w1.heap.size w1 W) => HC.out W (HW.out.trans (hb.mono HW.out.size)))
    have zw := hw.size
    obtain ⟨W, rfl⟩ : ∃ W, W = w1 := ⟨_, rfl⟩
    clear b1 x1 x2 hw HC HH
    go_wp2_with fail
    go_region_held3 (fun w' => w'.cell? ⟨w.heap.size, 0, none⟩ = some (.slice A s.L.length c) ∧ w'.cell? ⟨w.heap.size, 1, none⟩ = some (.int .i64 m) ∧ Below (w.heap.size + 1) W w')
      (first | exact keep2J hk5 p0 p1 | (refine keep2J ?_ p0 p1; go_grown))
      (first | (go_at_call 23; refine (CW.out _ (by go_grown)).mono ?_; rintro e w5 ⟨A5, c5, rfl, ho5, b5⟩; have hj5 := below_of (w := W) (by go_grown) b5; have hk5 := hj5.mono (Nat.le_of_lt_succ (Nat.lt_succ_of_lt qz)); have v0 := (hj5.cell (p := ⟨w.heap.size + 1, 0, none⟩) qz).trans q0; have v1 := (hj5.cell (p := ⟨w.heap.size + 1, 1, none⟩) qz).trans q1; have vf0 := (hj5.frozen (p := ⟨w.heap.size + 1, 0, none⟩) qz).trans f0; have vf1 := (hj5.frozen (p := ⟨w.heap.size + 1, 1, none⟩) qz).trans f1; clear b5))
    go_wp2_with fail
    refine bodyPost_ret (v := .tuple #[.agg #[.slice A5 (wout s.L i).length c5, .int .i64 m], .bool true]) (by simp [*, results, Try.results13, go_sem] <;> rfl) rfl ?_
    have hr5 := (NatsPost.rd ho5).1
    have hne : ∀ b, A5.map (·.block) = some b → b ≠ w.heap.size + 1 := fun b hb e => by
      have := (own_at ho5 hb).1
      simp at this
      omega
    rw [HE.out]
    refine ⟨A5, c5, rfl, rd_far (rd_far hr5 hne _) hne _, fun b hb => ⟨.inr ?_, ?_⟩, below_put2 (HW.out.trans (hj5.mono zw)) (Nat.le_succ _)⟩
    · have := (own_at ho5 hb).1
      simp at this
      omega
    · have := (own_at ho5 hb).2.1
      simpa [World.setCell] using this

end Go.Proofs.Ytkkjdpmkiedbiaa
