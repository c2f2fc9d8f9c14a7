/-
  What a client of package recency sees: a list that it made itself, beside blocks of the client's own, call by call; do and awake of layer 10's statements. Condition: the list lies at the pointer's block, in blocks from a bound on.
-/
import Derived.Test.YtkkjdpmkiedbiaaJd
import Derived.Test.YtkkjdpmkiedbiaaJe
namespace Go.Proofs.Ytkkjdpmkiedbiaa
open Go.RowKit
set_option maxRecDepth 100000

/-- A list that was made since the world w0; the blocks of X are others. -/
def WY (X : Nat → Prop) (w0 : World) (t : Nat) (s : Rc) (wr : World) : Prop := ∃ S, RcS wr t S s ∧ (∀ b, S b → w0.heap.size ≤ b ∧ ¬ X b) ∧ (∀ b, X b → b < wr.heap.size) ∧ Below w0.heap.size w0 wr
def noX : Nat → Prop := fun _ => False
section
variable {X : Nat → Prop} {w0 wr : World} {t : Nat} {s : Rc}
theorem WY.below (h : WY X w0 t s wr) : Below w0.heap.size w0 wr := by
  obtain ⟨S, h1, h2, h3, h4⟩ := h
  exact h4
theorem WY.ok (h : WY X w0 t s wr) : ∃ R, s.Ok R := by
  obtain ⟨S, ⟨v, R, -, hk, -⟩, -⟩ := h
  exact ⟨R, hk⟩
/-- Other blocks, of the client's, or new. -/
theorem WY.turn (h : WY X w0 t s wr) {X' : Nat → Prop} {w1 : World} (hb : Below wr.heap.size wr w1) (h1 : ∀ b, X' b → X b ∨ wr.heap.size ≤ b) (h2 : ∀ b, X' b → b < w1.heap.size) : WY X' w0 t s w1 := by
  obtain ⟨S, g1, g2, g3, g4⟩ := h
  refine ⟨S, g1.keep hb, fun b hS => ⟨(g2 b hS).1, fun hX => ?_⟩, h2, g4.trans (hb.mono g4.size)⟩
  rcases h1 b hX with e | e
  · exact (g2 b hS).2 e
  · have := g1.lt b hS
    omega
theorem WY.keep (h : WY X w0 t s wr) {w1 : World} (hb : Below wr.heap.size wr w1) : WY X w0 t s w1 :=
  h.turn hb (fun _ hx => .inl hx) (fun b hx => by obtain ⟨S, -, -, g3, -⟩ := h; exact Nat.lt_of_lt_of_le (g3 b hx) hb.size)
theorem WY.post (h : WY X w0 t s wr) {S : Nat → Prop} (hN : ∀ b, S b → w0.heap.size ≤ b ∧ ¬ X b) {s' : Rc} {S' : Nat → Prop} {w1 : World} (g1 : RcS w1 t S' s') (g2 : Frm S wr w1) (g3 : Sub S S' wr.heap.size) : WY X w0 t s' w1 ∧ ∀ b, X b → w1.heap[b]? = wr.heap[b]? := by
  have hz := h.below.size
  have hX : ∀ b, X b → b < wr.heap.size := by obtain ⟨S, -, -, g3, -⟩ := h; exact g3
  have hn : ∀ b, S' b → w0.heap.size ≤ b ∧ ¬ X b := fun b hb => by
    rcases g3 b hb with e | e
    · exact hN b e
    · exact ⟨by omega, fun hx => by have := hX b hx; omega⟩
  exact ⟨⟨S', g1, hn, fun b hx => Nat.lt_of_lt_of_le (hX b hx) g2.size, h.below.trans (g2.below (fun b hb => (hN b hb).1) hz)⟩, fun b hx => g2.block b (hX b hx) (fun e => (hN b e).2 hx)⟩
/-- A cell of the client's own is stored. -/
theorem WY.setCell (h : WY X w0 t s wr) {q : Nat} (hq : X q) (hq0 : w0.heap.size ≤ q) (j : Nat) (u : Value) : WY X w0 t s (wr.setCell ⟨q, j, none⟩ u) := by
  obtain ⟨S, g1, g2, g3, g4⟩ := h
  have hF : Frm (fun b => b = q) wr (wr.setCell ⟨q, j, none⟩ u) := Frm.setCell (S := fun b => b = q) (Frm.refl _ _) (p := ⟨q, j, none⟩) (.inl rfl) u
  exact ⟨S, g1.frm hF (fun b hS e => by subst e; exact (g2 b hS).2 hq), g2, fun b hx => Nat.lt_of_lt_of_le (g3 b hx) hF.size, g4.trans (hF.below (fun b e => by subst e; exact hq0) g4.size)⟩
theorem wy_touch (h : WY X w0 t s wr) (i : Int) : Calls Try.prog 21 #[.pointer (some ⟨t, 0, none⟩), .int .i64 i] wr fun e w' => e = .returned (.bool (s.may i)) ∧ WY X w0 t (s.touch i) w' ∧ ∀ b, X b → w'.heap[b]? = wr.heap[b]? := by
  obtain ⟨S, h1, h2, h3, h4⟩ := id h
  exact (rctouch_any wr t S s h1 i).mono fun _ _ ⟨he, S', g1, g2, g3⟩ => ⟨he, h.post h2 g1 g2 g3⟩
theorem wy_drop (h : WY X w0 t s wr) (i : Int) : Calls Try.prog 22 #[.pointer (some ⟨t, 0, none⟩), .int .i64 i] wr fun e w' => e = .returned (.bool (s.has i)) ∧ WY X w0 t (s.drop i) w' ∧ ∀ b, X b → w'.heap[b]? = wr.heap[b]? := by
  obtain ⟨S, h1, h2, h3, h4⟩ := id h
  exact (rcdrop_any wr t S s h1 i).mono fun _ _ ⟨he, S', g1, g2, g3⟩ => ⟨he, h.post h2 g1 g2 g3⟩
theorem wy_has (h : WY X w0 t s wr) (i : Int) : Calls Try.prog 19 #[.pointer (some ⟨t, 0, none⟩), .int .i64 i] wr fun e w' => e = .returned (.bool (s.has i)) ∧ wr = w' := by
  obtain ⟨S, h1, h2, h3, h4⟩ := id h
  exact rchas_any wr t S s h1 i
theorem wy_len (h : WY X w0 t s wr) : Calls Try.prog 18 #[.pointer (some ⟨t, 0, none⟩)] wr fun e w' => e = .returned (.int .i64 (s.L.length : Int)) ∧ wr = w' := by
  obtain ⟨S, h1, h2, h3, h4⟩ := id h
  exact rclen_any wr t S s h1
theorem wy_last (h : WY X w0 t s wr) : Calls Try.prog 14 #[.pointer (some ⟨t, 0, none⟩)] wr fun e w' => e = .returned (.tuple #[.int .i64 s.last, .bool s.is]) ∧ Below wr.heap.size wr w' := by
  obtain ⟨S, h1, h2, h3, h4⟩ := id h
  exact rclast_any wr t S s h1
theorem wy_order (h : WY X w0 t s wr) : Calls Try.prog 17 #[.pointer (some ⟨t, 0, none⟩)] wr (NatsPost wr s.L) := by
  obtain ⟨S, h1, h2, h3, h4⟩ := id h
  exact rcorder_any wr t S s h1
end
theorem wy_new (m : Int) (w : World) : Calls Try.prog 9 #[.int .i64 m] w fun e w' => ∃ t, e = .returned (.pointer (some ⟨t, 0, none⟩)) ∧ WY noX w t (Rc.new m) w' :=
  (rcnew_any m w).mono fun _ _ ⟨t, S, he, h1, h2, h3⟩ => ⟨t, he, S, h1, fun b hb => ⟨h3 b hb, id⟩, fun _ hx => hx.elim, h2⟩

/-- A thing done. -/
structure Ac10 where
  out : Bool
  i : Int
def ac10E (a : Ac10) : List Value := [.bool a.out, .int .i64 a.i]
def KA10 : Kd Ac10 := ⟨ac10E, 2, by decide, fun _ => rfl, fun x u h => by simp [ac10E] at h; rcases h with rfl | rfl <;> rfl⟩
def Rc.act (s : Rc) (a : Ac10) : Rc := if a.out = true then s.drop a.i else s.touch a.i
def Rc.acts (s : Rc) (a : Ac10) : Bool := if a.out = true then s.has a.i else s.may a.i
set_option maxHeartbeats 400000 in
theorem do10_any {X : Nat → Prop} {w0 wr : World} {t : Nat} {s : Rc} (h : WY X w0 t s wr) (a : Ac10) : Calls Try.prog 11 #[.pointer (some ⟨t, 0, none⟩), .agg #[.bool a.out, .int .i64 a.i]] wr fun e w' => e = .returned (.bool (s.acts a)) ∧ WY X w0 t (s.act a) w' ∧ ∀ b, X b → w'.heap[b]? = wr.heap[b]? := by
  have hX : ∀ b, X b → b < wr.heap.size := by obtain ⟨S, -, -, g3, -⟩ := h; exact g3
  have HX := Lib.hid hX
  have HB : Hid (∀ b, X b → (wr.alloc (.cells #[.bool a.out, .int .i64 a.i] 32)).heap[b]? = wr.heap[b]?) := Lib.hid (fun b hb => Below.heap_alloc _ _ _ (hX b hb))
  have H1 := Lib.hid (h.keep (w1 := wr.alloc (.cells #[.bool a.out, .int .i64 a.i] 32)) (by go_grown))
  obtain ⟨o, i⟩ := a
  clear h hX
  cases o
  · have HC := Lib.hid (wy_touch H1.out i)
    clear H1
    go_enter Try.func11, Try.ntmps11
    go_wp2_with fail
    refine HC.out.mono ?_
    rintro e w1 ⟨rfl, g1, g2⟩
    have G1 := Lib.hid g1
    have G2 := Lib.hid g2
    clear g1 g2
    go_wp2
    go_ret
    exact ⟨rfl, G1.out, fun b hb => (G2.out b hb).trans (HB.out b hb)⟩
  · have HC := Lib.hid (wy_drop H1.out i)
    clear H1
    go_enter Try.func11, Try.ntmps11
    go_wp2_with fail
    refine HC.out.mono ?_
    rintro e w1 ⟨rfl, g1, g2⟩
    have G1 := Lib.hid g1
    have G2 := Lib.hid g2
    clear g1 g2
    go_wp2
    go_ret
    exact ⟨rfl, G1.out, fun b hb => (G2.out b hb).trans (HB.out b hb)⟩
theorem rd_three {w : World} {b : Nat} {x y z : Nat} {e : TypeId} (h : w.heap[b]? = some (.cells #[.int .i64 (x : Int), .int .i64 (y : Int), .int .i64 (z : Int)] e (0, 0))) : KN.Rd w (some ⟨b, 0, none⟩) [x, y, z] := fun _ => by
  refine ⟨b, 0, rfl, lt_of_block h, fun i hi j hj => ?_⟩
  have hj0 : j = 0 := by simp [KN] at hj; omega
  subst hj0
  simp only [List.length_cons, List.length_nil] at hi
  rw [show 0 + i * KN.k + 0 = i from by simp [KN], cell_row h]
  obtain rfl | rfl | rfl : i = 0 ∨ i = 1 ∨ i = 2 := by omega
  · rfl
  · rfl
  · rfl
/-- Numbers that were touched. -/
def aw10 : Rc := ((((Rc.new 9).touch 1).touch 2).touch 3).touch 1
set_option maxHeartbeats 2000000 in
theorem awake10_any (w : World) : Calls Try.prog 8 #[] w fun e w' => e = .returned (.bool true) ∧ Below w.heap.size w w' := by
  have E1 : Hid (((((Rc.new 9).touch 1).touch 2).touch 3).may 1 = true ∧ aw10.last = 2 ∧ aw10.is = true ∧ aw10.L = [1, 3, 2]) := Lib.hid (by decide +kernel)
  go_enter Try.func8, Try.ntmps8
  go_wp2_with fail
  refine (wy_new 9 w).mono ?_
  rintro e w1 ⟨t, rfl, h1⟩
  have H1 := Lib.hid h1
  clear h1
  go_wp2_with fail
  refine (wy_touch H1.out 1).mono ?_
  rintro e w2 ⟨rfl, h2, -⟩
  have H2 := Lib.hid h2
  clear h2 H1
  go_wp2_with fail
  refine (wy_touch H2.out 2).mono ?_
  rintro e w3 ⟨rfl, h3, -⟩
  have H3 := Lib.hid h3
  clear h3 H2
  go_wp2_with fail
  refine (wy_touch H3.out 3).mono ?_
  rintro e w4 ⟨rfl, h4, -⟩
  have H4 := Lib.hid h4
  clear h4 H3
  go_wp2_with fail
  refine (wy_touch H4.out 1).mono ?_
  rw [E1.out.1]
  rintro e w5 ⟨rfl, h5, -⟩
  have H5 := Lib.hid h5
  clear h5 H4
  go_wp2_with fail
  rw [show ((((Rc.new 9).touch 1).touch 2).touch 3).touch 1 = aw10 from rfl] at H5
  refine (wy_last H5.out).mono ?_
  rw [E1.out.2.1, E1.out.2.2.1]
  rintro e w6 ⟨rfl, b6⟩
  have H6 := Lib.hid (H5.out.keep b6)
  clear b6 H5
  go_wp2_with fail
  have hc := wy_order H6.out
  rw [E1.out.2.2.2] at hc
  refine hc.mono ?_
  rintro e w7 ⟨A7, c7, rfl, ho7, b7⟩
  have H7 := Lib.hid (H6.out.keep b7)
  have HO7 := Lib.hid (NatsPost.rd ho7).1
  have z7 := b7.size
  clear hc ho7 b7 H6
  go_wp2_with fail
  have H8 := Lib.hid (H7.out.keep (w1 := w7.alloc (.cells #[.int .i64 1, .int .i64 3, .int .i64 2] 3)) (by go_grown))
  have P7 := Lib.hid (HO7.out.kept (w' := w7.alloc (.cells #[.int .i64 1, .int .i64 3, .int .i64 2] 3)) (by go_grown))
  have P8 : Hid (KN.Rd (w7.alloc (.cells #[.int .i64 1, .int .i64 3, .int .i64 2] 3)) (some ⟨w7.heap.size, 0, none⟩) [1, 3, 2]) := Lib.hid (rd_three (hp_new rfl))
  refine (ints9_any [1, 3, 2] A7 (some ⟨w7.heap.size, 0, none⟩) c7 3 _ P7.out P8.out (by decide)).mono ?_
  rintro e w8 ⟨rfl, b8⟩
  have H9 := Lib.hid (H8.out.keep b8)
  clear b8 H7 H8 P7 P8 HO7
  have hl := wy_len H9.out
  rw [E1.out.2.2.2] at hl
  go_wp2_with fail
  refine hl.mono ?_
  rintro e w9 ⟨rfl, rfl⟩
  go_wp2
  go_ret
  exact ⟨rfl, H9.out.below⟩

end Go.Proofs.Ytkkjdpmkiedbiaa
